"""Written programs, for tests that run many."""

# Programs with rests, pieces, marks, winds, once, set, deeds that go off, faults and inputs.
TEXTS = (
    "(show (+ 1 (keep k (do (k 5) 6))))",
    "(let ((r none) (n 0)) (show (keep k (do (set r k) 0))) (set n (+ n 1)) (if (< n 4) (r n) (show none)))",
    "(show (mark (+ 10 (take k (+ (k 1) (k 2))))))",
    "(show (mark (+ 10 (take k (+ (k 1) (mark (+ 5 (take j (k (j 3))))))))))",
    "(mark (wind (fn () (show 1)) (wind (fn () (show 2)) (take k (do (show 9) (k 0) (k (k 1)))) (fn () (show 3))) (fn () (show 4))))",
    "(wind (fn () (show 1)) (mark (show (wind (fn () (show 2)) (take k (k (k 5))) (fn () (show 3))))) (fn () (show 4)))",
    "(wind (fn () (show 1)) (show (keep k (wind (fn () (show 2)) (k 5) (fn () (show 3))))) (fn () (show 4)))",
    """(let ((r none) (n 0))
      (wind (fn () (show 1)) (wind (fn () (show 2)) (keep k (set r k)) (fn () (show 3))) (fn () (show 4)))
      (set n (+ n 1))
      (wind (fn () (show 5)) (if (< n 3) (r 0) (show 9)) (fn () (show 6))))""",
    """(let ((p none)) (mark (show (wind (fn () (take k (set p k))) (show 1) (fn () (show 2)))))
      (show 3) (p 0) (show 4) (p 0))""",
    """(let ((p none) (n 0)) (mark (show (wind (fn () (show 1)) (take j 5) (fn () (take k (set p k))))))
      (show 3) (p 0) (show 4) (wind (fn () (show 7)) (p 0) (fn () (show 8))))""",
    """(let ((a none) (n 0)) (wind (fn () (keep k (set a k))) (do (show n) (set n (+ n 1))) (fn () (show 8)))
      (if (< n 3) (wind (fn () (show 5)) (a 1) (fn () (show 6))) none))""",
    """(let ((a none) (n 0)) (wind (fn () (show 7)) (do (show n) (set n (+ n 1))) (fn () (keep k (set a k))))
      (if (< n 3) (wind (fn () (show 5)) (do (set n (+ n 1)) (a 1)) (fn () (show 6))) none))""",
    "(show (keep k (wind (fn () (k 1)) (show 2) (fn () (show 3)))))",
    "(show (keep k (wind (fn () (show 0)) (show 2) (fn () (k 3)))))",
    "(let ((r none)) (show (once k (do (set r k) (k 1)))) (show 2) (r 3))",
    "(let ((j none) (n 0)) (show (once k (keep i (do (set j i) 1)))) (set n (+ n 1)) (if (< n 5) (j 2) none))",
    "(let ((r none)) (show (once k (set r k))) (wind (fn () (show 1)) (r 2) (fn () (show 3))))",
    "(show (pair (ask) (pair (ask) (pair (ask) (ask)))))",
    "(show (ask)) (+ (show (ask)) (show none))",
    "(rec ((f (fn (n) (if (= n 0) (keep k k) (do (show n) (wind (fn () (show n)) (f (- n 1)) (fn () (show (- 0 n))))))))) (f 4))",
    "(let ((f (fn (x) (fn () (do (set x (+ x 1)) (show x)))))) (let ((a (f 1)) (b (f 10))) (a) (b) (a) (b)))",
    "(rec ((f (fn () (show 1))) (g (fn () (f)))) (g) (set f (fn () (show 2))) (g))",
    "(let ((p (pair 1 2))) (right! p p) (show (left p)) (show p))",
    "(let ((p (pair 1 2))) (show (left! p 3)) (show p) (show (right! p 4)) (show p) (show (pair (right p) (left p))))",
    "(let ((p (pair 1 2)) (f (fn () 1))) (keep k (show (pair (pair? p) (pair (none? none) (pair (rest? k) (fun? f)))))))",
    "(let ((p (pair 1 2)) (f (fn () 1))) (keep k (show (pair (pair? f) (pair (none? p) (pair (rest? f) (fun? k)))))))",
    "(let ((p (pair 1 2)) (f (fn () 1))) (keep k (show (pair (same? p p) (pair (same? f p) (pair (same? k k) (same? 1 true)))))))",
    "(quot (show 1) (show 0))", "(* (show 1000000000) 2)", "((fn (a) 1))", "(show (1 2))", "(left! 1 2)",
    "(wind (fn () (show 1)) (left (show 2)) (fn () (show 3)))", "(wind (fn (a) 1) 2 (fn () 3))", "(wind (fn () 1) 2 3)",
    "(mark (keep k (wind k 2 (fn () 3))))", "(take k (show k))", "(take k (do (show 1) (k 2)))",
    "(let ((f (fn (a b) (show (- a b))))) (f (show 9) (show 4)) (f 1 (mark (f 3 (once j (j 1))))))",
    """(rec ((again (fn (i n f) (if (< i n) (do (f) (again (+ i 1) n f)) none)))
      (next (fn (g m) (if (pair? g) (do (show (left g)) (if (< 1 m) (next ((right g) none) (- m 1)) none)) none))))
      (next (mark (again 0 3 (fn () (wind (fn () (show 7)) (do (take k (pair 1 k)) (take k (pair 2 k))) (fn () (show -7)))))) 5))""",
    """(let ((queue none)) (rec ((put (fn (q x) (if (none? q) (pair x none) (pair (left q) (put (right q) x)))))
      (start (fn (f) (set queue (put queue f)))) (away (fn () (take k (start (fn () (k none))))))
      (run (fn () (if (none? queue) none (let ((h (left queue))) (do (set queue (right queue)) (mark (h)) (run)))))))
      (do (start (fn () (do (show 1) (away) (show 2) (wind (fn () (show 3)) (do (away) none) (fn () (show 4))))))
      (start (fn () (do (show 5) (away) (start (fn () (show 6))) none))) (run))))""",
)

# Programs that end with a fault, and its word.
FAULTS = (
    ("(+ (show 1) (show none))", "kind"), ("(left (show 1))", "kind"), ("((show 1))", "kind"), ("((fn (a) 1))", "arity"),
    ("(keep k (k 1 2))", "arity"), ("(quot (show 1) 0)", "zero"), ("(rem 1 0)", "zero"), ("(* 1000000000 (show 2))", "big"),
    ("(- -1000000000 1)", "big"), ("(let ((p (pair 1 2))) (do (left! p p) (show p)))", "show"),
    ("(let ((r none)) (do (once k (set r k)) (show 1) (r 2)))", "once"), ("(wind (show 1) 2 3)", "kind"),
    ("(let ((j none)) (do (once k (keep i (set j i))) (show 1) (j 2)))", "once"), ("(wind (fn () 1) (left 2) 3)", "kind"),
    ("(wind (fn (a) 1) 2 3)", "arity"), ("(take k (k))", "arity"), ("(let ((r none)) (do (once k (set r k)) (r)))", "arity"),
)
