import PyProof.Rows.All
import Wide.All
import OpenK.AllK
import Wide.FinOn
import HandS.ForMost
import HandS.Codes
import HandS.Wide
import HandS.TupAny
import HandS.Conv
import HandS.RevRange
import HandS.SortInts
import HandS.RaiseMore
import HandS.Style
import HandS.Walk
import HandS.Zip
import HandS.More
import KE.GoesEnum
import KE.GoesMore
import KE.KDictList
import KE.KDictSum
import HandS.IsInst
import HandS.Deep
import HandS.Exc
import HandS.ExcOwn
import HandS.ExcIs
import HandS.ExcField
import HandS.WordsExc
import HandS.TupMul
import PyProof.Rows.SortShellAny
import HandS.ExcInit
import HandS.ExcValue
import PySem.Challenge.RW_goonagain_k02_whole_names_free_set_and_c
set_option Elab.async false
set_option maxRecDepth 100000
set_option maxHeartbeats 4000000
/-! common part: what a call keeps, data, repr, the hand of draws -/
namespace Cm
open PySem L2

/-! ### what is kept but at the lists M -/
structure Kp (M : Addr → Prop) (H H' : Hp) : Prop where
  st : ∀ a o, ¬ M a → H a = some o → H' a = some o
  l1 : ∀ a, M a → ∃ xs, H a = some (.lst xs)
  l2 : ∀ a, M a → ∃ xs, H' a = some (.lst xs)
theorem Kp.trans {M : Addr → Prop} {H H1 H2 : Hp} (a : Kp M H H1) (b : Kp M H1 H2) : Kp M H H2 :=
  ⟨fun x o n e => b.st x o n (a.st x o n e), a.l1, b.l2⟩
theorem Kp.of_same {M : Addr → Prop} {H H' : Hp} (h : ∀ a, M a → ∃ xs, H a = some (.lst xs)) (s : Same H H') : Kp M H H' :=
  ⟨fun x o _ e => s x o e, h, fun a m => let ⟨xs, e⟩ := h a m; ⟨xs, s a _ e⟩⟩
theorem Kp.refl {M : Addr → Prop} {H : Hp} (h : ∀ a, M a → ∃ xs, H a = some (.lst xs)) : Kp M H H := .of_same h (Same.refl H)
theorem same_new {H : Hp} {p : Addr} {o : HO} (h : H p = Option.none) : Same H (upd H p o) := fun b u e => by
  rw [upd_ne (ne_of_none e h)]
  exact e
theorem Kp.new {M : Addr → Prop} {H : Hp} (h : ∀ a, M a → ∃ xs, H a = some (.lst xs)) {p : Addr} {o : HO} (hp : H p = Option.none) : Kp M H (upd H p o) :=
  .of_same h (same_new hp)
theorem Kp.put {M : Addr → Prop} {H : Hp} (h : ∀ a, M a → ∃ xs, H a = some (.lst xs)) {p : Addr} {ys : List V} (hp : M p) : Kp M H (upd H p (.lst ys)) :=
  ⟨fun x o n e => by
    rw [upd_ne (show x ≠ p by rintro rfl; exact n hp)]
    exact e, h, fun a m => by
    by_cases q : a = p
    · subst q
      exact ⟨ys, upd_same⟩
    · rw [upd_ne q]
      exact h a m⟩
theorem Kp.wider {M N : Addr → Prop} {H H' : Hp} (k : Kp M H H') (h : ∀ a, M a → N a) (l : ∀ a, N a → ∃ xs, H a = some (.lst xs)) : Kp N H H' :=
  ⟨fun x o n e => k.st x o (fun m => n (h x m)) e, l, fun a m => by
    by_cases q : M a
    · exact k.l2 a q
    · obtain ⟨xs, e⟩ := l a m
      exact ⟨xs, k.st a _ q e⟩⟩
theorem Kp.tup {M : Addr → Prop} {K : PySem.W.Frag} {H H' : Hp} {a : Addr} {xs : List V} (k : Kp M H H') (h : SqT K H a xs) : SqT K H' a xs := by
  have no : ∀ o, H a = some o → (∀ ys, o ≠ .lst ys) → ¬ M a := fun o e n m => by
    obtain ⟨ys, e2⟩ := k.l1 a m
    rw [e] at e2
    exact n ys (Option.some.inj e2)
  rcases h with (h | ⟨o, h⟩) | h
  · exact .inl (.inl (k.st _ _ (no _ h fun _ z => nomatch z) h))
  · exact .inl (.inr ⟨o, k.st _ _ (no _ h fun _ z => nomatch z) h⟩)
  · exact .inr h
theorem Kp.free {M : Addr → Prop} {H H' : Hp} {p : Addr} (k : Kp M H H') (h : H' p = Option.none) : H p = Option.none := by
  cases e : H p with
  | none => rfl
  | some o =>
    by_cases q : M p
    · obtain ⟨xs, e2⟩ := k.l2 p q
      rw [h] at e2
      cases e2
    · have := k.st p o q e
      rw [h] at this
      cases this
theorem Kp.m_of {M : Addr → Prop} {H H' : Hp} {p : Addr} (k : Kp M H H') (h : H p = Option.none) : ¬ M p := fun m => by
  obtain ⟨xs, e⟩ := k.l1 p m
  rw [h] at e
  cases e

/-! ### data -/
mutual
/-- no list, no dict in it -/
def flatD : PyData → Bool
  | .list _ => false
  | .dict _ => false
  | .tuple xs => flatDs xs
  | _ => true
def flatDs : List PyData → Bool
  | [] => true
  | x :: xs => flatD x && flatDs xs
end
mutual
theorem dp_keep {K : PySem.W.Frag} {H H' : Hp} (k : ∀ a xs, SqT K H a xs → SqT K H' a xs) : ∀ (d : PyData) (v : V), flatD d = true → Dp K H v d → Dp K H' v d
  | .none, _, _, h => by cases h; exact .non
  | .bool _, _, _, h => by cases h; exact .bl _
  | .int _, _, _, h => by cases h; exact .int _
  | .str _, _, _, h => by cases h; exact .str _
  | .list _, _, f, _ => by simp [flatD] at f
  | .dict _, _, f, _ => by simp [flatD] at f
  | .tuple ds, _, f, h => by
    cases h with
    | tup hs ha => exact .tup (k _ _ hs) (dps_keep k ds _ (by simpa [flatD] using f) ha)
theorem dps_keep {K : PySem.W.Frag} {H H' : Hp} (k : ∀ a xs, SqT K H a xs → SqT K H' a xs) : ∀ (ds : List PyData) (vs : List V), flatDs ds = true → DpAll K H vs ds → DpAll K H' vs ds
  | [], _, _, h => by cases h; exact .nil
  | d :: ds, _, f, h => by
    cases h with
    | cons h1 h2 =>
      have f' : flatD d = true ∧ flatDs ds = true := by simpa [flatDs] using f
      exact .cons (dp_keep k d _ f'.1 h1) (dps_keep k ds _ f'.2 h2)
end
mutual
/-- all lists in it are kept as well -/
theorem dp_same {K : PySem.W.Frag} {H H' : Hp} (s : Same H H') : ∀ (d : PyData) (v : V), Dp K H v d → Dp K H' v d
  | .none, _, h => by cases h; exact .non
  | .bool _, _, h => by cases h; exact .bl _
  | .int _, _, h => by cases h; exact .int _
  | .str _, _, h => by cases h; exact .str _
  | .dict _, _, h => by cases h
  | .list ds, _, h => by
    cases h with
    | lst hs ha => exact .lst (s.seq hs) (dps_same s ds _ ha)
  | .tuple ds, _, h => by
    cases h with
    | tup hs ha =>
      refine .tup ?_ (dps_same s ds _ ha)
      rcases hs with (h | ⟨o, h⟩) | h
      · exact .inl (.inl (s _ _ h))
      · exact .inl (.inr ⟨o, s _ _ h⟩)
      · exact .inr h
theorem dps_same {K : PySem.W.Frag} {H H' : Hp} (s : Same H H') : ∀ (ds : List PyData) (vs : List V), DpAll K H vs ds → DpAll K H' vs ds
  | [], _, h => by cases h; exact .nil
  | d :: ds, _, h => by
    cases h with
    | cons h1 h2 => exact .cons (dp_same s d _ h1) (dps_same s ds _ h2)
end
theorem DpAll.len {K : PySem.W.Frag} {H : Hp} : ∀ {vs : List V} {ds : List PyData}, DpAll K H vs ds → vs.length = ds.length
  | _, _, .nil => rfl
  | _, _, .cons _ h => congrArg (· + 1) (DpAll.len h)
theorem DpAll.at {K : PySem.W.Frag} {H : Hp} : ∀ {vs : List V} {ds : List PyData} {i : Nat} {d : PyData}, DpAll K H vs ds → ds[i]? = some d → ∃ v, vs[i]? = some v ∧ Dp K H v d
  | _, _, 0, d, .cons h _, e => by
    simp at e
    subst e
    exact ⟨_, rfl, h⟩
  | _, _, i + 1, d, .cons _ h, e => by
    obtain ⟨v, h1, h2⟩ := DpAll.at (i := i) (d := d) h (by simpa using e)
    exact ⟨v, by simpa using h1, h2⟩
theorem DpAll.atV {K : PySem.W.Frag} {H : Hp} : ∀ {vs : List V} {ds : List PyData} {i : Nat} {v : V}, DpAll K H vs ds → vs[i]? = some v → ∃ d, ds[i]? = some d ∧ Dp K H v d
  | _, _, 0, d, .cons h _, e => by
    simp at e
    subst e
    exact ⟨_, rfl, h⟩
  | _, _, i + 1, d, .cons _ h, e => by
    obtain ⟨v, h1, h2⟩ := DpAll.atV (i := i) (v := d) h (by simpa using e)
    exact ⟨v, by simpa using h1, h2⟩
theorem DpAll.snoc {K : PySem.W.Frag} {H : Hp} {v : V} {d : PyData} (h : Dp K H v d) : ∀ {vs : List V} {ds : List PyData}, DpAll K H vs ds → DpAll K H (vs ++ [v]) (ds ++ [d])
  | _, _, .nil => .cons h .nil
  | _, _, .cons a b => .cons a (DpAll.snoc h b)
theorem DpAll.app {K : PySem.W.Frag} {H : Hp} : ∀ {vs ws : List V} {ds es : List PyData}, DpAll K H vs ds → DpAll K H ws es → DpAll K H (vs ++ ws) (ds ++ es)
  | _, _, _, _, .nil, h => h
  | _, _, _, _, .cons a b, h => .cons a (DpAll.app b h)
theorem DpAll.take {K : PySem.W.Frag} {H : Hp} (n : Nat) : ∀ {vs : List V} {ds : List PyData}, DpAll K H vs ds → DpAll K H (vs.take n) (ds.take n) := by
  induction n with
  | zero => intro vs ds _; exact .nil
  | succ n ih =>
    intro vs ds h
    cases h with
    | nil => exact .nil
    | cons a b => exact .cons a (ih b)
theorem DpAll.drop {K : PySem.W.Frag} {H : Hp} (n : Nat) : ∀ {vs : List V} {ds : List PyData}, DpAll K H vs ds → DpAll K H (vs.drop n) (ds.drop n) := by
  induction n with
  | zero => intro vs ds h; exact h
  | succ n ih =>
    intro vs ds h
    cases h with
    | nil => exact .nil
    | cons a b => exact ih b
theorem DpAll.rev {K : PySem.W.Frag} {H : Hp} : ∀ {vs : List V} {ds : List PyData}, DpAll K H vs ds → DpAll K H vs.reverse ds.reverse
  | _, _, .nil => .nil
  | _, _, .cons a b => by
    rw [List.reverse_cons, List.reverse_cons]
    exact DpAll.snoc a (DpAll.rev b)
theorem dpAll_ints {K : PySem.W.Frag} {H : Hp} : ∀ ns : List Int, DpAll K H (ns.map V.int) (ns.map PyData.int)
  | [] => .nil
  | n :: ns => .cons (.int n) (dpAll_ints ns)

/-! ### repr of data -/
/-- what repr sees at a value: data of lists and tuples, or a dict of int keys whose values are data without lists -/
def Rp (K : PySem.W.Frag) (H : Hp) (x : V) (d : PyData) : Prop :=
  Dp K H x d ∨ ∃ (a : Addr) (kvs : List (Key × V)) (es : List (Int × PyData)), x = .ref a ∧ H a = some (.dK kvs) ∧ kvs.map (·.1) = es.map (fun e => Sum.inl e.1) ∧
    DpAll K H (kvs.map (·.2)) (es.map (·.2)) ∧ flatDs (es.map (·.2)) = true ∧ d = .dict (es.map fun e => (.int e.1, e.2))
mutual
/-- short leaves -/
def okD : PyData → Bool
  | .int i => decide (i.natAbs < 10 ^ 12)
  | .str x => PyData.leavesShort 13 (.str x)
  | .list xs => okDs xs
  | .tuple xs => okDs xs
  | .dict kvs => okDk kvs
  | _ => true
def okDs : List PyData → Bool
  | [] => true
  | x :: xs => okD x && okDs xs
def okDk : List (PyData × PyData) → Bool
  | [] => true
  | (k, v) :: r => okD k && okD v && okDk r
end
mutual
theorem okD_show : ∀ d : PyData, okD d = true → d.showable = true ∧ d.leavesShort 13 = true
  | .none, _ => by constructor <;> first | rfl | decide +kernel | simp [PyData.showable, PyData.leavesShort]
  | .bool b, _ => by cases b <;> constructor <;> first | rfl | decide +kernel
  | .int i, h => by
    have h' : i.natAbs < 10 ^ 12 := by simpa [okD] using h
    refine ⟨?_, ?_⟩
    · have : i.natAbs.log2 < 1920 := by
        by_cases z : i.natAbs = 0
        · rw [z]; decide
        · refine Nat.lt_of_lt_of_le ((Nat.log2_lt z).mpr (show i.natAbs < 2 ^ 64 from Nat.lt_of_lt_of_le h' (by decide))) (by decide)
      simpa [PyData.showable] using this
    · have := PyData.shown_int_le h'
      simpa [PyData.leavesShort] using this
  | .str x, h => by
    exact ⟨by simp [PyData.showable], by simpa only [okD] using h⟩
  | .list xs, h => by
    have := okDs_show xs (by simpa [okD] using h)
    exact ⟨by simpa [PyData.showable] using this.1, by simpa [PyData.leavesShort] using this.2⟩
  | .tuple xs, h => by
    have := okDs_show xs (by simpa [okD] using h)
    exact ⟨by simpa [PyData.showable] using this.1, by simpa [PyData.leavesShort] using this.2⟩
  | .dict kvs, h => by
    have := okDk_show kvs (by simpa [okD] using h)
    exact ⟨by simpa [PyData.showable] using this.1, by simpa [PyData.leavesShort] using this.2⟩
theorem okDs_show : ∀ xs : List PyData, okDs xs = true → PyData.showableAll xs = true ∧ PyData.leavesShortAll 13 xs = true
  | [], _ => ⟨by simp [PyData.showableAll], by simp [PyData.leavesShortAll]⟩
  | x :: xs, h => by
    have h' : okD x = true ∧ okDs xs = true := by simpa [okDs] using h
    have a := okD_show x h'.1
    have b := okDs_show xs h'.2
    exact ⟨by simp [PyData.showableAll, a.1, b.1], by simp [PyData.leavesShortAll, a.2, b.2]⟩
theorem okDk_show : ∀ xs : List (PyData × PyData), okDk xs = true → PyData.showableKv xs = true ∧ PyData.leavesShortKv 13 xs = true
  | [], _ => ⟨by simp [PyData.showableKv], by simp [PyData.leavesShortKv]⟩
  | (k, v) :: xs, h => by
    have h' : (okD k = true ∧ okD v = true) ∧ okDk xs = true := by simpa [okDk] using h
    have a := okD_show k h'.1.1
    have b := okD_show v h'.1.2
    have c := okDk_show xs h'.2
    exact ⟨by simp [PyData.showableKv, a.1, b.1, c.1], by simp [PyData.leavesShortKv, a.2, b.2, c.2]⟩
end
mutual
theorem no_as {h : Heap} : ∀ (d : PyData) (u : Value) (as : List Addr), flatD d = true → Reads h u d as → as = []
  | .none, _, _, _, r => by cases r; rfl
  | .bool _, _, _, _, r => by cases r; rfl
  | .int _, _, _, _, r => by cases r; rfl
  | .str _, _, _, _, r => by cases r; rfl
  | .list _, _, _, f, _ => by simp [flatD] at f
  | .dict _, _, _, f, _ => by simp [flatD] at f
  | .tuple ds, _, _, f, r => by
    cases r with
    | tuple _ _ _ ha => exact no_ass ds _ _ (by simpa [flatD] using f) ha
theorem no_ass {h : Heap} : ∀ (ds : List PyData) (us : List Value) (as : List Addr), flatDs ds = true → ReadsAll h us ds as → as = []
  | [], _, _, _, r => by cases r; rfl
  | d :: ds, _, _, f, r => by
    have f' : flatD d = true ∧ flatDs ds = true := by simpa [flatDs] using f
    cases r with
    | cons r1 r2 => rw [no_as d _ _ f'.1 r1, no_ass ds _ _ f'.2 r2]; rfl
end
mutual
theorem dp_nodict {K : PySem.W.Frag} {H : Hp} : ∀ (d : PyData) (v : V), Dp K H v d → d.hasDict = false
  | .none, _, _ => by simp [PyData.hasDict]
  | .bool _, _, _ => by simp [PyData.hasDict]
  | .int _, _, _ => by simp [PyData.hasDict]
  | .str _, _, _ => by simp [PyData.hasDict]
  | .dict _, _, h => by cases h
  | .list ds, _, h => by
    cases h with
    | lst _ ha => simpa [PyData.hasDict] using dps_nodict ds _ ha
  | .tuple ds, _, h => by
    cases h with
    | tup _ ha => simpa [PyData.hasDict] using dps_nodict ds _ ha
theorem dps_nodict {K : PySem.W.Frag} {H : Hp} : ∀ (ds : List PyData) (vs : List V), DpAll K H vs ds → PyData.hasDictAll ds = false
  | [], _, _ => by simp [PyData.hasDictAll]
  | d :: ds, _, h => by
    cases h with
    | cons h1 h2 => simp [PyData.hasDictAll, dp_nodict d _ h1, dps_nodict ds _ h2]
end
theorem flatDs_ints : ∀ ks : List Int, flatDs (ks.map PyData.int) = true
  | [] => rfl
  | k :: ks => by simp [flatDs, flatD, flatDs_ints ks]
section
variable {X : Cx}
theorem dict_keys {prog : Program} {w : World} {h : Heap} : ∀ (es : List (Int × PyData)) (kvs : List (Key × V)) (l : List DictEntry) (vs : List (Key × Value)), kvs.map (·.1) = es.map (fun e => Sum.inl e.1) → KV kvs vs → Pairs (mixKind prog w) l vs →
    ReadsAll h (l.map (·.key)) (es.map fun e => PyData.int e.1) [] ∧ Vals (kvs.map (·.2)) (l.map (·.val))
  | [], kvs, l, vs, hk, r, p => by
    cases kvs with
    | cons a b => simp at hk
    | nil =>
      cases r
      cases p
      exact ⟨.nil, .nil⟩
  | e :: es, kvs, l, vs, hk, r, p => by
    cases kvs with
    | nil => simp at hk
    | cons a b =>
      simp only [List.map_cons, List.cons.injEq] at hk
      cases r with
      | @cons _ v _ vs' r1 r2 =>
        cases p with
        | @cons en _ l' _ p1 p2 p3 =>
          obtain ⟨q1, q2⟩ := dict_keys es b l' vs' hk.2 r2 p3
          have p1' : keyIs v.1 en.key = true := p1
          rw [← r1.1, hk.1] at p1'
          obtain ⟨t, et⟩ := Value.isInt_shape (k := e.1) (v := en.key) p1'
          refine ⟨?_, .cons ?_ q2⟩
          · rw [List.map_cons, List.map_cons, et]
            exact ReadsAll.cons (as := []) (bs := []) (Reads.int _ _) q1
          · show RelV a.2 en.val
            rw [p2]
            exact r1.2
def rRepr (K : PySem.W.Frag) : List V → Hp → VK → Prop := fun xs H Q => ∃ x d, xs = [x] ∧ Rp K H x d ∧ okD d = true ∧ d.depth ≤ 60 ∧ d.weight ≤ 2 ^ 20 ∧ Q (.str d.shown) H
theorem call_reprD (hg : X.A.guards = some []) (hu : X.A.units + 64 < cLine) : CallR X (.builtin "repr") (rRepr X.K) := by
  intro pins s σ H xs us Q I r h
  obtain ⟨x, d, rfl, hd, ok, hdep, hw, q⟩ := h
  obtain ⟨u, rfl, rx⟩ := vals1 r
  obtain ⟨hsh, hls⟩ := okD_show d ok
  have hsz : d.shown.length ≤ sizeLine := PyData.shown_fits (by decide) (by decide) hls hw
  have fin : ∀ (a : Addr) (as : List Addr), u = .ref a → Reads s.heap u d as → (d.hasDict = true → sysModules ∉ as) → wpAny (model X.prog X.w) X.A (call (.builtin "repr") [u]) (EP X pins σ Q) X.xe s := fun a as e rd no => by
    subst e
    exact repr_of_reads' rd hsh no hg (by omega) (fun _ _ e => e) (fun h' u tk k => ⟨.str _, H, I.kept k, ⟨_, rfl⟩, q⟩) hsz
  rcases hd with hd | ⟨a, kvs, es, rfl, ha, hk, hv, hf, rfl⟩
  · obtain ⟨as, rd⟩ := Dp.reads I d x u hd rx
    cases hd with
    | non => cases rx; exact P.repr_of_none ⟨.str _, H, I.tok _, ⟨_, rfl⟩, q⟩
    | bl b => cases rx; exact P.repr_of_bool ⟨.str _, H, I.tok _, ⟨_, rfl⟩, by cases b <;> exact q⟩
    | int i =>
      obtain ⟨t, rfl⟩ := rx
      exact P.repr_of_int (by simpa [PyData.showable] using hsh) ⟨.str _, H, I.tok _, ⟨_, rfl⟩, by simpa [PyData.shown] using q⟩
    | str z =>
      obtain ⟨t, rfl⟩ := rx
      exact P.repr_of_str ⟨.str _, H, I.tok _, ⟨_, rfl⟩, by simpa [PyData.shown] using q⟩ (by simpa [PyData.shown] using hsz)
    | lst hs ha =>
      have nd := dp_nodict _ _ (Dp.lst hs ha)
      cases rx
      exact fin _ as rfl rd fun z => by rw [nd] at z; cases z
    | tup hs ha =>
      have nd := dp_nodict _ _ (Dp.tup hs ha)
      cases rx
      exact fin _ as rfl rd fun z => by rw [nd] at z; cases z
  · cases rx
    obtain ⟨_, hsys, vs, rv, ob, dl, ep, e1, e2, e3, _, e5, _⟩ := (show kvs.length ≤ sizeLine ∧ (a == sysModules) = false ∧ ∃ vs, KV kvs vs ∧ s.heap.DictOf (mixKind X.prog X.w) a vs from dk_of I.hok ha)
    obtain ⟨q1, q2⟩ := dict_keys es kvs dl.toList vs hk rv e5
    obtain ⟨bs, q3⟩ := Dp.readsAll I _ _ _ hv q2
    obtain rfl := no_ass _ _ _ hf q3
    have rd : Reads s.heap (.ref a) (.dict (es.map fun e => (PyData.int e.1, e.2))) (a :: [] ++ []) :=
      .dict e1 e2.1 e3 (by rw [List.map_map]; exact q1) (by rw [List.map_map]; exact q3)
    exact fin a _ rfl rd fun _ m => by
      have : sysModules = a := by simpa using m
      rw [← this] at hsys
      simp at hsys
end
end Cm

/-! a law's call whose body may ask repr: nothing is under repr there -/
namespace Cm
open PySem L2 PySem.Spec PyProof.Rows
section
variable {P : Program} {w : World} {K : PySem.W.Frag} {mg : Str → Option Value} {base : Heap}
/-- the promise of the law's def, where no repr is under way -/
def LawAt (P : Program) (w : World) (K : PySem.W.Frag) (mg : Str → Option Value) (base : Heap) (k : Nat) (f : Addr) (fd : FuncData) (ps : List Str) (sp : Sp) : Prop :=
  ∀ (A : Around) (outer : List Env) (s : Shared) (H : Hp) (args : Args) (us : List Value) (vs : List V) (Q : VK) (E : XK),
    A.guards = some [] → Room k A → Env0 P w K mg base A outer s H → BindsTo s fd args (ps.zip us) → Vals vs us → sp vs H Q E →
      codeAny (model P w) A (.call (.ref f) args) (CR CX0 outer P w H s Q E) s
theorem lawAt_of {x : Str} {st : Stmt} {f : Addr} {fd : FuncData} {N ps : List Str} {k : Nat} {sp : Sp} (F : Fun K x x st f fd) (S : FnScope N ps (defScope st))
    (len : ∀ vs H Q E, sp vs H Q E → vs.length = ps.length)
    (hb : ∀ (cdv : Value) (A : Around) (outer : List Env) (s : Shared) (H : Hp) (vs : List V) (Q : VK) (E : XK), A.guards = some [] →
      Room k (A.deeper (envOfC x (defScope st) s.heap.objs.size f cdv)) → sp vs H Q E →
      ∃ t, PSs (cxOf CX0 P w K mg base N x (defScope st) f cdv A outer s H E).nox (defBody st) t ∧ t { nx := fun _ H' => Q .non H', rt := Q } (start N vs) H) :
    LawAt P w K mg base (k + 1) f fd ps sp := by
  intro A outer s H args us vs Q E hg hr e0 hbind rv hs
  obtain ⟨oc, od, kV, doc, pm, an, cdv, ct, osl, rfl, lk, hcd⟩ := F.ex
  have keeps : ∀ b o, base.get? b = some o → s.heap.get? b = some o := fun b o e => (e0.bs b o e).1
  have KX : K.In s.heap := e0.mod.kin.keeps keeps
  refine codeAny_call_function hr.depth (KX _ _ lk) rfl S.co S.gen rfl (PySem.W.codeRec_of KX hcd) (hbind _ _ _ _ ?_)
  refine wpAny_newFunctionEnv_cells S.kind (fun z hz => ?_) fun env he s1 xc => ?_
  · rcases S.par z.1 (List.of_mem_zip (show (z.1, z.2) ∈ ps.zip us from hz)).1 with q | q
    · exact Or.inl q
    · exact Or.inr ⟨q, PySem.W.cellsFrom_some _ _ _ (Or.inl q)⟩
  · subst he
    refine ⟨(e0.mod.nolimit.keeps keeps).keeps xc.toInCall.keep, codeAny_func ?_⟩
    obtain ⟨t, ht, hq⟩ := hb cdv A outer s H vs Q E hg (hr.deeper _) hs
    have I := inv_start (E := E) (CX := CX0) S hr.hd e0 (len _ _ _ _ hs) rv xc
    refine wpAny_mono (ht.nox.run [] s1 (start N vs) H _ I hq) (fun fl s' hz => ?_) fun e s' hz => hz
    cases fl with
    | ret u =>
      obtain ⟨v, _, H', J, r, q⟩ := hz
      exact ⟨v, H', J.os, J.bare, J.base, J.hok, r, q⟩
    | next =>
      obtain ⟨_, H', J, q⟩ := hz
      exact ⟨V.non, H', J.os, J.bare, J.base, J.hok, rfl, q⟩
    | brk =>
      obtain ⟨_, _, _, q⟩ := hz
      exact q.elim
    | cont =>
      obtain ⟨_, _, _, q⟩ := hz
      exact q.elim
end
/-- the script tracked at a: known to the object, or one of the module's own -/
def scriptH (a : Addr) (o : Obj) (ns : List Int) : Hp := fun b => if b = a then some (.frz o (.lst (ns.map V.int))) else Option.none
theorem law_goes {P : Program} {w : World} {K : PySem.W.Frag} {mg mb : Str → Option Value} {k : Nat} {fa a : Addr} {fd : FuncData} {x : Str} {sp : Sp} {s₁ : Shared} {vs : List Value} {ns : List Int}
    (KX : K.In s₁.heap) (hns : s₁.heap.Ns mainGlobals mg) (hb : s₁.heap.Ns builtinsNs mb)
    (hbb : ∀ x : Str, x ≠ "__name__" → mb x = bootBuiltins x) (hlim : s₁.heap.NoLimit) (hg : s₁.gens = #[])
    (ha : s₁.heap.get? a = some { cls := .type "list", data := .seq vs.toArray }) (hi : IntsAre vs ns) (hl : ns.length ≤ sizeLine) (hr : Room k callerA)
    (F : ∀ b : Heap, K.In b → b.Ns mainGlobals mg → LawAt P w K mg b k fa fd [x] sp)
    (hbind : ∀ (s : Shared) (u : Value), BindsTo s fd ⟨[u], []⟩ [(x, u)])
    (hsp : ∀ H : Hp, Only H → SqL K H a (ns.map V.int) → sp [.ref a] H (fun v _ => v = .bl true) fun _ _ _ => False) :
    codeAny (model P w) callerA (.call (.ref fa) ⟨[.ref a], []⟩)
      (fun r s' => r = .ok (.ret (.bool true)) ∧ OldK s₁.heap s'.heap ∧ s'.os = s₁.os ∧ AllBare s'.gens) s₁ := by
  have rv := vals_ints hi
  have main : ∀ H : Hp, Only H → SqL K H a (ns.map V.int) → HOk P w H s₁.heap → (∀ b, H b ≠ Option.none → b = a ∧ K.lookup a = Option.none) →
      codeAny (model P w) callerA (.call (.ref fa) ⟨[.ref a], []⟩)
        (fun r s' => r = .ok (.ret (.bool true)) ∧ OldK s₁.heap s'.heap ∧ s'.os = s₁.os ∧ AllBare s'.gens) s₁ := by
    intro H hO hS hok hA
    have free_ns : ∀ {b : Addr} {o : Obj} {es : Array DictEntry} {ep : Nat}, s₁.heap.get? b = some o → o.data = .dict es ep → H b = Option.none := fun {b o es ep} e d => by
      by_cases q : H b = Option.none
      · exact q
      · obtain ⟨rfl, _⟩ := hA b q
        rw [ha] at e
        cases e
        cases d
    have ns_of : ∀ {b : Addr} {m : Str → Option Value}, s₁.heap.Ns b m → (hidT s₁.heap H).Ns b m := fun h => by
      obtain ⟨o, es, ep, e, d, r⟩ := h
      exact ⟨o, es, ep, hidT_get e (free_ns e d), d, r⟩
    have kin : K.In (hidT s₁.heap H) := fun b o e => hidT_get (KX b o e) (by
      by_cases q : H b = Option.none
      · exact q
      · obtain ⟨rfl, q2⟩ := hA b q
        rw [q2] at e
        cases e)
    obtain ⟨mc, l1, l2⟩ := hlim
    have e0 : Env0 P w K mg (hidT s₁.heap H) callerA [] s₁ H :=
      { frames := rfl, mod := ⟨kin, ns_of hns, ⟨mb, ns_of hb, hbb⟩, ⟨mc, ns_of l1, l2⟩⟩, bs := fun b o e => of_hidT e, bsz := Nat.le_of_eq (hidT_size _ _),
        funs := trivial, frf := fun b z => absurd (show b ∈ ([] : List Addr) from z) (by simp), hok := hok, bare := .of_eq hg }
    have run := F _ kin (ns_of hns) callerA [] s₁ H ⟨[.ref a], []⟩ [.ref a] [.ref a] _ _ rfl hr e0 (hbind s₁ (.ref a)) (.cons rfl .nil) (hsp H hO hS)
    refine codeAny_mono run fun r s' h => ?_
    rcases r with e | fl
    · exact False.elim h
    · cases fl with
      | ret u =>
        obtain ⟨v, H', os, bare, un, hok', r', q⟩ := h
        have q' : v = .bl true := q
        subst q'
        have eu : u = Value.bool true := r'
        subst eu
        refine ⟨rfl, OldK.of_keep fun b o e => ?_, os, bare⟩
        by_cases q : H b = Option.none
        · exact un.keep b o e q (fun z => absurd (show b ∈ ([] : List Addr) from z) (by simp)) (by simp)
        · rcases hO b with z | ⟨ob, xs, z⟩
          · exact absurd z q
          · have e1 := (hok b _ z).1
            have e2 := (hok' b _ (un.frzs b ob _ z)).1
            rw [e] at e1
            cases e1
            exact e2
      | next => exact False.elim h
      | brk => exact False.elim h
      | cont => exact False.elim h
  by_cases hk : K.lookup a = Option.none
  · refine main (scriptH a { cls := .type "list", data := .seq vs.toArray } ns) (fun b => ?_) (.inl (.inr ⟨_, if_pos rfl⟩)) (fun b u z => ?_) fun b z => ?_
    · by_cases q : b = a
      · exact .inr ⟨_, _, if_pos q⟩
      · exact .inl (if_neg q)
    · unfold scriptH at z
      by_cases q : b = a
      · rw [if_pos q] at z
        cases z
        subst q
        exact ⟨ha, by rw [List.length_map]; exact hl, vs, _, rv, ha⟩
      · rw [if_neg q] at z
        cases z
    · by_cases q : b = a
      · exact ⟨q, hk⟩
      · exact absurd (if_neg q) z
  · obtain ⟨o, ho⟩ : ∃ o, K.lookup a = some o := by
      cases e : K.lookup a with
      | none => exact absurd e hk
      | some o => exact ⟨o, rfl⟩
    have e := KX a o ho
    rw [ha] at e
    cases e
    refine main (fun _ => Option.none) (fun _ => .inl rfl) ?_ (fun b u z => by cases z) fun b z => absurd rfl z
    exact .inr ⟨_, vs.toArray, _, ho, rfl, rfl, rfl, by rw [List.size_toArray, hi.length]; exact hl, by simpa using rv⟩
theorem walk_law {l : PySem.W.OpenLaw} {n k : Nat} {q : Program} {loose : List Str} {XP : (Str → Option Value) → Heap → Prop} {YP : World → Heap → Prop} {d : DefRec} {K : Params → PySem.W.Frag} {sp : PySem.W.Frag → Sp} {x : Str}
    (hn : l.most = some n) (hn2 : n ≤ sizeLine) (hdf : d.params.defaults = []) (hr : Room k callerA)
    (hY : ∀ (w : World) (h : Heap), YP w h → (K w.params).In h)
    (F : ∀ (w : World) (mg : Str → Option Value) (fa : Addr) (h : Heap), (K w.params).In h → h.Ns mainGlobals mg → mg d.name = some (.ref fa) →
      ∃ fd : FuncData, (∀ (s : Shared) (u : Value), BindsTo s fd ⟨[u], []⟩ [(x, u)]) ∧
        ∀ b : Heap, (K w.params).In b → b.Ns mainGlobals mg → LawAt l.prog w (K w.params) mg b k fa fd [x] (sp (K w.params)))
    (hsp : ∀ (K : PySem.W.Frag) (H : Hp) (a : Addr) (ns : List Int), ns.length ≤ n → Only H → SqL K H a (ns.map V.int) → sp K [.ref a] H (fun v _ => v = .bl true) fun _ _ _ => False) :
    PySem.W.WalkO q loose XP YP l.row.toRowW d [] (fun f vs => PySem.call f vs) := by
  refine Att.attach_call hn hdf fun w s₀ s₁ mg mb fa o pm cd doc a vs ns G Y ho hd hcd hmg hobj hints hlen hg => ?_
  obtain ⟨fd, hb, hF⟩ := F w mg fa _ (hY w _ Y) G.T.g hmg
  exact law_goes (hY w _ Y) G.T.g G.T.b G.T.builtins G.T.nolimit hg hobj hints (Nat.le_trans hlen hn2) hr hF hb fun H hO hS => hsp _ H a ns hlen hO hS
end Cm

/-! defs that are called by name; the hand of draws -/
namespace Cm
open PySem L2 PySem.Spec PyProof.Rows
structure Cl (P : Program) (w : World) (K : PySem.W.Frag) (mg : Str → Option Value) (base : Heap) (k : Nat) (x : Str) (sp : Sp) : Prop where
  ex : ∃ (f : Addr) (fd : FuncData) (ps : List Str), FnOk P w K mg base CX0 k f fd ps sp ∧ mg x = some (.ref f) ∧ PySem.W.keepIn K (.ref f) = true ∧ Binds K fd ps []
/-- where a def of the text stands -/
structure At (K : PySem.W.Frag) (mg : Str → Option Value) (x : Str) (st : Stmt) (ps : List Str) : Prop where
  ex : ∃ (f : Addr) (fd : FuncData), Fun K x x st f fd ∧ mg x = some (.ref f) ∧ Binds K fd ps []
section
variable {P : Program} {w : World} {K : PySem.W.Frag} {mg : Str → Option Value} {base : Heap}
theorem cl_of {x : Str} {st : Stmt} {N ps : List Str} {k : Nat} {sp : Sp} (T : At K mg x st ps) (S : FnScope N ps (defScope st))
    (len : ∀ vs H Q E, sp vs H Q E → vs.length = ps.length)
    (hb : ∀ (f : Addr) (cdv : Value) (A : Around) (outer : List Env) (s : Shared) (H : Hp) (vs : List V) (Q : VK) (E : XK),
      Room k (A.deeper (envOfC x (defScope st) s.heap.objs.size f cdv)) → sp vs H Q E →
      ∃ t, PSs (cxOf CX0 P w K mg base N x (defScope st) f cdv A outer s H E).nox (defBody st) t ∧ t { nx := fun _ H' => Q .non H', rt := Q } (start N vs) H) :
    Cl P w K mg base (k + 1) x sp := by
  obtain ⟨f, fd, F, hm, b⟩ := T.ex
  exact ⟨f, fd, ps, F.ok S len (hb f), hm, F.kp, b⟩
end
section
variable {X : Cx} {j k : Nat} {x : Str} {sp : Sp} {e : Expr} {es : List Expr} {t : TA} {p pos : Pos}
theorem pe_c (c : Cl X.prog X.w X.K X.mg X.base k x sp) (hr : Room j X.A) (hk : k ≤ j) (hg : Gl X x) (ha : PA X (e :: es) t)
    (hdb : (x == ("__debug__" : Str)) = false := by decide) (he : starEach (e :: es) X.env = (false, eval e X.env) :: starEach es X.env := by rfl)
    (hpl : (backTo pos (starEach es X.env)).any (·.1) = false := by rfl) : PE X (.Call (.Name x p) (e :: es) [] pos) (tCall sp [] E0 t) := by
  obtain ⟨f, fd, ps, F, hm, kp, b⟩ := c.ex
  exact pe_call F (hr.mono hk) hg hm kp b .nil pass0 ha hdb he hpl
end

theorem map_at {α β : Type} {f : α → β} {xs : List α} {i : Nat} {y : β} (h : (xs.map f)[i]? = some y) : ∃ x, xs[i]? = some x ∧ y = f x := by
  rw [List.getElem?_map] at h
  obtain ⟨x, a, b⟩ := Option.map_eq_some_iff.mp h
  exact ⟨x, a, b.symm⟩

/-! ### a word between a statement and what follows it -/
def tMid (t u : TS) : TS := fun D σ H => ∃ M : L2.St → Hp → Prop, t { D with nx := M } σ H ∧ ∀ σ' H', M σ' H' → u D σ' H'
theorem pss_mid {X : Cx} {st : Stmt} {rest : List Stmt} {t u : TS} (h1 : PS X st t) (h2 : PSs X rest u) : PSs X (st :: rest) (tMid t u) :=
  ⟨fun pins s σ H D I h => by
    obtain ⟨M, hm, hu⟩ := h
    refine wpAny_execs_cons (thn (h1.run pins s σ H { D with nx := M } I hm) fun fl s1 q => ?_)
    cases fl with
    | next =>
      obtain ⟨σ', H', I', q⟩ := q
      exact h2.run pins s1 σ' H' D I' (hu σ' H' q)
    | ret v => exact q
    | brk => exact q
    | cont => exact q⟩

/-! ### the hand of draws -/
/-- a hand stands at h: the cells, how many were taken, a great cell that is drawn from, a sum -/
def Hand (H : Hp) (h c : Addr) : Prop := ∃ (cells : List Int) (i b t : Int), H h = some (.lst [.ref c, .int i, .int b, .int t]) ∧ H c = some (.lst (cells.map V.int)) ∧ c ≠ h ∧ 0 ≤ i ∧ cells.length ≤ 63
theorem Hand.lst {H : Hp} {h c : Addr} (x : Hand H h c) : ∃ xs, H h = some (.lst xs) := let ⟨_, _, _, _, e, _⟩ := x; ⟨_, e⟩
theorem Hand.same {H H' : Hp} {h c : Addr} (x : Hand H h c) (s : Same H H') : Hand H' h c := by
  obtain ⟨cells, i, b, t, e1, e2, n, z⟩ := x
  exact ⟨cells, i, b, t, s _ _ e1, s _ _ e2, n, z⟩
/-- the hand alone is changed -/
abbrev Kh (h : Addr) : Hp → Hp → Prop := Kp (fun a => a = h)
theorem Hand.kh {H H' : Hp} {h c : Addr} (x : Hand H h c) (s : Same H H') : Kh h H H' := .of_same (fun a m => by subst m; exact x.lst) s
theorem Hand.kr {H : Hp} {h c : Addr} (x : Hand H h c) : Kh h H H := x.kh (Same.refl H)

def spMix : Sp := fun vs H Q _ => ∃ a b : Int, vs = [.int a, .int b] ∧ ∀ n : Int, Q (.int n) H
def spHand (K : PySem.W.Frag) : Sp := fun vs H Q _ => ∃ (a : Addr) (ns : List Int), vs = [.ref a] ∧ SqL K H a (ns.map V.int) ∧ ns.length ≤ 63 ∧ ∀ h c H', Same H H' → H h = Option.none → H c = Option.none → Hand H' h c → Q (.ref h) H'
def spDraw : Sp := fun vs H Q _ => ∃ (h c : Addr) (m : Int), vs = [.ref h, .int m] ∧ Hand H h c ∧ 0 < m ∧ m < 2 ^ 100 ∧ ∀ (n : Int) (H' : Hp), 0 ≤ n → n < m → Kh h H H' → Hand H' h c → Q (.int n) H'
/-- pick out of a list or tuple -/
def spPick (K : PySem.W.Frag) : Sp := fun vs H Q _ => ∃ (h c a : Addr) (xs : List V), vs = [.ref h, .ref a] ∧ Hand H h c ∧ (SqL K H a xs ∧ a ≠ h ∨ SqT K H a xs) ∧ xs ≠ [] ∧ xs.length ≤ 1000 ∧
  ∀ (v : V) (H' : Hp), v ∈ xs → Kh h H H' → Hand H' h c → Q v H'
end Cm

/-! further rules: a tuple read backwards, enumerate over a tuple, sorted(d.keys()) -/
namespace Cm
open PySem L2 PySem.Spec PyProof.Rows
section
variable {prog : Program} {w : World} {A : Around} {E : Value → Shared → Prop} {s : Shared}
theorem adjust_back (n : Nat) : Builtin.Slice.sliceAdjust none none (-1) (n : Int) = ((n : Int) - 1, -1) := by
  unfold Builtin.Slice.sliceAdjust
  simp
theorem places_back (n : Nat) : Builtin.Slice.slicePlaces ((n : Int) - 1) (-1) (-1) = n := by
  unfold Builtin.Slice.slicePlaces
  simp
  try omega
theorem applied_back {sl : Addr} {vs : Value} {n : Nat} {Q : Int × Int × Nat → Shared → Prop} (hs : s.heap.IsSliceOf sl .none .none vs) (ps : IsPart vs (some (-1)))
    (h : Q ((n : Int) - 1, -1, n) s) : wpAny (model prog w) A (Builtin.Slice.sliceApplied (.ref sl) (pure (n : Int))) Q E s := by
  obtain ⟨os, hos, hcs, hds⟩ := id hs
  unfold Builtin.Slice.sliceApplied Builtin.Slice.sliceFields
  refine wpAny_bind (wpAny_bind (wpAny_field hos hds (x := .none) rfl (wpAny_bind (wpAny_field hos hds (x := .none) rfl (wpAny_bind (wpAny_field hos hds (x := vs) rfl (wpAny_pure ?_)))))))
  refine wpAny_bind (HT.slicePart_ ps ?_)
  show wpAny _ _ (if ((-1 : Int) == 0) = true then _ else _) _ _ s
  rw [if_neg (by decide)]
  refine wpAny_bind (slicePart_none (wpAny_bind (slicePart_none (wpAny_bind (wpAny_pure ?_)))))
  show wpAny _ _ (match Builtin.Slice.sliceAdjust none none (-1) (n : Int) with | (lo, hi) => pure (lo, (-1 : Int), Builtin.Slice.slicePlaces lo hi (-1))) _ _ s
  rw [adjust_back]
  show wpAny _ _ (pure ((n : Int) - 1, (-1 : Int), Builtin.Slice.slicePlaces ((n : Int) - 1) (-1) (-1))) _ _ s
  rw [places_back]
  exact wpAny_pure h
theorem filterMap_eqs {α β : Type} {f g : α → Option β} : ∀ l : List α, (∀ x ∈ l, f x = g x) → l.filterMap f = l.filterMap g
  | [], _ => rfl
  | x :: l, h => by
    rw [List.filterMap_cons, List.filterMap_cons, h x List.mem_cons_self, filterMap_eqs l fun y hy => h y (List.mem_cons_of_mem _ hy)]
theorem pick_all (m : List Value) : (List.range m.length).filterMap (fun k => m[k]?) = m := by
  induction m with
  | nil => rfl
  | cons a m ih =>
    rw [List.length_cons, List.range_succ_eq_map, List.filterMap_cons]
    simp only [List.getElem?_cons_zero, List.filterMap_map]
    refine congrArg _ (Eq.trans (filterMap_eqs _ fun k _ => ?_) ih)
    simp
theorem pick_back (xs : Array Value) : ((List.range xs.size).filterMap fun (k : Nat) => xs[((xs.size : Int) - 1 + (k : Int) * -1).toNat]?).toArray = xs.toList.reverse.toArray := by
  have h1 : (List.range xs.size).filterMap (fun (k : Nat) => xs[((xs.size : Int) - 1 + (k : Int) * -1).toNat]?) = (List.range xs.size).filterMap (fun k => xs.toList.reverse[k]?) := by
    refine filterMap_eqs _ fun k hk => ?_
    have hk' : k < xs.size := List.mem_range.mp hk
    have e2 : ((xs.size : Int) - 1 + (k : Int) * -1).toNat = xs.size - 1 - k := by omega
    rw [e2, List.getElem?_reverse (by simpa using hk'), Array.getElem?_toList]
    simp
  have h3 := pick_all xs.toList.reverse
  rw [List.length_reverse, Array.length_toList] at h3
  rw [h1, h3]
theorem getItem_tuple_back {t sl : Addr} {items : Array Value} {vs : Value} {Q : Value → Shared → Prop} (ht : IsTup s.heap t items) (hs : s.heap.IsSliceOf sl .none .none vs) (ps : IsPart vs (some (-1)))
    (h : Q (.ref s.heap.objs.size) { s with heap := s.heap.push { cls := .type "tuple", data := .seq items.toList.reverse.toArray } })
    (hsz : items.size ≤ sizeLine) : wpAny (model prog w) A (getItem (.ref t) (.ref sl)) Q E s := by
  have hok : sizeOk (.seq items.toList.reverse.toArray) := by
    show items.toList.reverse.toArray.size ≤ sizeLine
    rw [List.size_toArray, List.length_reverse, Array.length_toList]
    exact hsz
  obtain ⟨os, hos, hcs, hds⟩ := id hs
  have hTs : s.TypeIs (.ref sl) "slice" := ⟨os, hos, hcs⟩
  unfold getItem
  try with_reducible refine wpAny_holding ?_
  first | refine wpAny_bind (wpAny_pure ?_) | skip
  refine wpAny_bind (wpAny_sequenceKey ht.typeIs (by decide) ?_)
  refine wpAny_bind (wpAny_callSpecial?_slot (name := Str.ofString "__getitem__") ht.typeIs slot_tuple_getitem (wpAny_call_entry slot_tuple_getitem ht.typeIs PyProof.Rows.entry_tuple_getitem ?_ (PyProof.Rows.args_tuple_getitem _ _)))
  show wpAny _ _ (Builtin.Tuple.tupleItemsOf (.ref t) >>= _) _ _ s
  refine wpAny_bind (tupleItemsOf_ ht (wpAny_bind (wpAny_typeOf hTs ?_)))
  rw [if_pos (by decide)]
  refine wpAny_bind (applied_back (n := items.size) hs ps ?_)
  show wpAny _ _ (if ((((items.size : Int) - 1) == 0 && (-1 : Int) == 1 && items.size == items.size) = true) then _ else _) _ _ s
  rw [if_neg (by simp), pick_back]
  first
    | exact wpAny_bind (m := Builtin.Tuple.tupleExact _) (wpAny_newObj_type (wpAny_pure ⟨_, rfl, wpAny_pure h⟩) hok)
    | exact wpAny_bind (m := Builtin.Tuple.tupleExact _) (wpAny_newObj_type (wpAny_bind (wpAny_pure (wpAny_pure ⟨_, rfl, wpAny_pure h⟩))) hok)
end
section
variable {X : Cx}
def tRevT (K : PySem.W.Frag) (te : TE) : TE := fun σ H Q => te σ H fun x H1 => ∃ a xs, x = .ref a ∧ SqT K H1 a xs ∧ ∀ p, H1 p = Option.none → Q (.ref p) (upd H1 p (.tup xs.reverse))
theorem pe_revT {e : Expr} {te : TE} {k : Nat} {p1 p2 p3 pos : Pos} (he : PE X e te) : PE X (.Subscript e (.Slice none none (some (.UnaryOp .USub (.Constant (.int 1) k p1) p2)) p3) pos) (tRevT X.K te) := by
  refine ⟨fun pins s σ H Q I h => ?_⟩
  refine Subscript_ (thn (he.run pins s σ H _ I h) fun v s1 hz => ?_)
  obtain ⟨x, H1, I1, r1, a, xs, ex, hx, q⟩ := hz
  subst ex
  cases r1
  have hst : PO X (some (.UnaryOp .USub (.Constant (.int 1) k p1) p2)) (tPart (tUn (rU fun i => .int (-i)) (tC (.int 1)))) := po_some (pe_un un_neg pe_int)
  refine wpAny_Slice (thn (po_none.run pins s1 σ H1 (fun o H2 => o = none ∧ H2 = H1) I1 ⟨rfl, rfl⟩) fun vl s2 hz => ?_)
  obtain ⟨l, H2, I2, pl, el, e2⟩ := hz
  subst el e2
  refine thn (po_none.run pins s2 σ H2 (fun o H3 => o = none ∧ H3 = H2) I2 ⟨rfl, rfl⟩) fun vu s3 hz => ?_
  obtain ⟨u, H3, I3, pu, eu, e3⟩ := hz
  subst eu e3
  refine thn (hst.run pins s3 σ H3 (fun o H4 => o = some (-1) ∧ H4 = H3) I3 ⟨1, rfl, -1, rfl, rfl, rfl⟩) fun vs s4 hz => ?_
  obtain ⟨o, H4, I4, ps, eo, e4⟩ := hz
  subst eo e4
  cases pl
  cases pu
  have I5 : Inv X pins σ H4 { s4 with heap := s4.heap.push { cls := .type "slice", data := .fields #[.none, .none, vs] } } := I4.kept (t' := s4.toks) fun b ob q => Heap.get?_push_of_some _ q
  obtain ⟨its, r, ht, hz⟩ := I5.tuple hx
  have hlen := r.length
  show wpAny (model X.prog X.w) X.A (subscriptTail e (.Slice none none (some (.UnaryOp .USub (.Constant (.int 1) k p1) p2)) p3) (.ref a) (.ref s4.heap.objs.size)) (EP X pins σ Q) X.xe
    { s4 with heap := s4.heap.push { cls := .type "slice", data := .fields #[.none, .none, vs] } }
  refine tail_any (ops := [.ref a, .ref s4.heap.objs.size]) ht.typeIs slot_tuple_getitem.lookup ?_ (by with_unfolding_all rfl)
  refine getItem_tuple_back ht (Heap.IsSliceOf.new _ .none .none vs) ps ?_ (by rw [List.size_toArray]; omega)
  refine ⟨.ref _, _, I5.laid (t' := s4.toks) (o := .tup xs.reverse) (fun b ob q => Heap.get?_push_of_some _ q) (Nat.le_refl _) ?_, rfl, q _ (I5.hok.fresh (Nat.le_refl _))⟩
  exact ⟨by rw [List.length_reverse]; exact hz, its.reverse, r.reverse, IsTup.new _ _⟩
end

/-! ### enumerate over a tuple -/
theorem enum_new1 {v : Value} {o : Obj} {G : Heap → Prop} (B : Begins v o G) :
    Meets (Builtin.«enumerate.__new__» ⟨[.type "enumerate", v], []⟩) (fun _ R s => G s.heap ∧
      R (.ok (.ret (.ref (s.heap.push o).objs.size))) { s with heap := (s.heap.push o).push { cls := .type "enumerate", data := .fields #[.none, .bool false, .ref s.heap.objs.size, rawInt 0, .none, .none] } }) :=
  .of_wp fun prog w A R s h => by
    obtain ⟨hp, g, d, tk, os⟩ := s
    obtain ⟨h1, h2⟩ := h
    have hsub := sub_enumerate
    have it : ∀ {A' : Around} {E : Value → Shared → Prop} {Q : Value → Shared → Prop}, Q (.ref hp.objs.size) ⟨hp.push o, g, d, tk, os⟩ → wpAny (model prog w) A' (pyIter v) Q E ⟨hp, g, d, tk, os⟩ :=
      fun q => B.iter prog w _ _ ⟨hp, g, d, tk, os⟩ _ h1 q
    wp_walk using it
    refine wpAny_stack_any fun st => wpAny_pure ?_
    split
    · rename_i c _ _ _ _ _
      cases (c == Value.type "enumerate") <;> (wp_walk using it; exact ⟨_, rfl, h2⟩)
    · wp_walk using it
      exact ⟨_, rfl, h2⟩
section
variable {prog : Program} {w : World} {A : Around} {E : Value → Shared → Prop} {s : Shared}
theorem call_enum1 {v : Value} {o : Obj} {G : Heap → Prop} {Q : Value → Shared → Prop} (B : Begins v o G) (h1 : G s.heap)
    (h : ∀ h', IsEnum h' (s.heap.objs.size + 1) s.heap.objs.size 0 .none → h'.get? s.heap.objs.size = some o → h'.objs.size = s.heap.objs.size + 2 →
      (∀ b o, s.heap.get? b = some o → h'.get? b = some o) → Q (.ref (s.heap.objs.size + 1)) { s with heap := h' }) :
    wpAny (model prog w) A (call (.type "enumerate") [v]) Q E s := by
  refine callType_new F.called_enumerate (by decide) (F.typeCall_enumerate_1 _) (F.newCall_enumerate_1 _) (fun obj => F.args_object_init_2 obj _) F.entry_enumerate_new (enum_new1 B) ⟨h1, ?_⟩
  have hz : (s.heap.push o).objs.size = s.heap.objs.size + 1 := Heap.size_push ..
  rw [hz]
  have he : IsEnum ((s.heap.push o).push { cls := .type "enumerate", data := .fields #[.none, .bool false, .ref s.heap.objs.size, rawInt 0, .none, .none] }) (s.heap.objs.size + 1) s.heap.objs.size 0 .none := by
    have e := Heap.get?_push_size (s.heap.push o) (o := { cls := .type "enumerate", data := .fields #[.none, .bool false, .ref s.heap.objs.size, rawInt 0, .none, .none] }) rfl
    rw [hz] at e
    exact e
  exact ⟨⟨_, he, rfl⟩, h _ he (Heap.get?_push_of_some _ (Heap.get?_push_size _ B.free)) (by rw [Heap.size_push, hz]) fun b o x => Heap.get?_push_of_some _ (Heap.get?_push_of_some _ x)⟩
end
/-- the tuple at a, each item in a new pair with its number -/
def IteT (K : PySem.W.Frag) (a : Addr) : It :=
  ⟨fun i H => ∃ (xs : List V) (x : V), SqT K H a xs ∧ xs[i]? = some x, fun i H v H' => ∃ T x, v = .ref T ∧ H T = Option.none ∧ H' = upd H T (.tup [.int (i : Nat), x]) ∧ ∀ xs, SqT K H a xs → xs[i]? = some x,
    fun i H => ∃ xs : List V, SqT K H a xs ∧ xs.length ≤ i⟩
theorem turn_enumT {P : Program} {w : World} {K : PySem.W.Frag} {elts : List Expr} {kk : Nat} {tpos : Pos} (a e it : Addr) :
    Turn P w K (.Tuple elts kk tpos) (IteT K a) [e, it] e (fun i h => (∃ old, IsEnum h e it ((i : Nat) : Int) old) ∧ h.IsTupleIter it a i ∧ e ≠ it ∧ a ≠ it ∧ a ≠ e) where
  mem := by simp
  obj := fun i h st b hb => by
    obtain ⟨⟨old, he⟩, ⟨o, ho, hc, hd⟩, _⟩ := st
    rcases (show b = e ∨ b = it by simpa using hb) with z | z
    · rw [z]; exact ⟨_, he, fun v q => nomatch q⟩
    · rw [z]; exact ⟨o, ho, fun v q => by rw [hd] at q; cases q⟩
  keep := fun i h h' st k => let ⟨⟨old, he⟩, hi, hne⟩ := st; ⟨⟨old, k e (by simp) _ he⟩, hi.at fun o q => k it (by simp) o q, hne⟩
  item := by
    intro X hP hw hK hc i pins s σ H E I hf st hg
    subst hP hw hK
    obtain ⟨⟨old, he⟩, hit, hne, hai, hae⟩ := st
    obtain ⟨xs, x, hq, hx⟩ := hg
    obtain ⟨its, rv, p, hz⟩ := I.tuple hq
    obtain ⟨u, hu, ru⟩ := rv.get hx
    have hel : e < s.heap.objs.size := Heap.lt_size he
    have hil : it < s.heap.objs.size := by obtain ⟨_, q, _⟩ := hit; exact Heap.lt_size q
    have hlt : i < its.toArray.size := by
      rw [List.size_toArray]
      exact (List.getElem?_eq_some_iff.mp hu).1
    refine wpAny_pyNext_enum_itemD (Draws.tuple (prog := X.prog) (w := X.w) (A := X.A.in1) (I.ok.hd hc) it a hai its.toArray) he ⟨hit, p⟩ hlt hne (by simp [hne, Ne.symm hae]) fun y h' tk hy ho hst hT hsz hk => ?_
    have ey : y = u := by
      have q : its[i]? = some y := by simpa using hy
      rw [hu] at q
      exact (Option.some.inj q).symm
    subst ey
    refine ⟨_, rfl, wpAny_letOwnedTupleGo_enum (s := { s with heap := h', toks := tk + 1 }) ho fun h'' he' sb => ?_⟩
    have hT2 : h''.get? s.heap.objs.size = some { cls := .type "tuple", data := .seq #[.int i tk, y] } := (sb.2 _ (Nat.ne_of_gt hel)).trans hT
    have new : ObjOk X.prog X.w (upd H s.heap.objs.size (.tup [.int (i : Nat), x])) h'' s.heap.objs.size (.tup [.int (i : Nat), x]) :=
      ⟨by show 2 ≤ sizeLine; decide, [.int i tk, y], .cons ⟨_, rfl⟩ (.cons ru .nil), ⟨_, hT2, rfl, _, rfl⟩⟩
    have I1 : Inv X pins σ (upd H s.heap.objs.size (.tup [.int (i : Nat), x])) { s with heap := h'', toks := tk + 1 } :=
      I.turnedNew (ch := [e, it]) (fun b ob hb q => (sb.2 b (fun z => hb (by simp [z]))).trans (hk b ob (fun z => hb (by simp [z])) (fun z => hb (by simp [z])) q)) hf (Nat.le_refl _) new
    refine ⟨.ref s.heap.objs.size, _, I1, rfl, ⟨_, x, rfl, I.hok.fresh (Nat.le_refl _), rfl, fun ys hy => by rw [I.tuple_inj hy hq]; exact hx⟩, ⟨⟨y, ?_⟩, hst.1.at fun o q => (sb.2 it (Ne.symm hne)).trans q, hne, hai, hae⟩, fun b hb => ?_⟩
    · have e1 : ((i + 1 : Nat) : Int) = (i : Int) + 1 := by omega
      rw [e1]; exact he'
    · have hb' : b < s.heap.objs.size := by
        rcases (show b = e ∨ b = it by simpa using hb) with z | z
        · rw [z]; exact hel
        · rw [z]; exact hil
      rw [upd_ne (Nat.ne_of_lt hb')]
      exact (hf b hb).1
  done := by
    intro X hP hw hK hc i pins s σ H E I hf st hg
    subst hP hw hK
    obtain ⟨⟨old, he⟩, hit, hne, hai, hae⟩ := st
    obtain ⟨xs, hq, hx⟩ := hg
    obtain ⟨its, rv, p, hz⟩ := I.tuple hq
    obtain ⟨f0, f1, f2, f3, f4, f5⟩ := hf it (by simp)
    have hl := rv.length
    have D : Draws X.prog X.w X.A.in1 it [it, a] i (fun _ _ => False) (fun j h => j = i ∧ h.IsTupleIter it a i ∧ h.IsTuple a its.toArray) :=
      { live := fun _ _ st => let ⟨o, ho, _⟩ := st.2.1; ⟨o, ho⟩
        frame := fun _ _ _ st hk => ⟨st.1, st.2.1.at fun o e => hk it (by simp) o e, st.2.2.at fun o e => hk a (by simp) o e⟩
        item := fun j s Q E hj st => absurd hj (by rw [st.1]; exact Nat.lt_irrefl _)
        done := fun s Q E st hE => wpAny_nextOf_tuple_end (I.ok.hd hc) st.2.1 st.2.2 (by simp; omega) hE }
    exact wpAny_pyNext_enum_endD D he ⟨rfl, hit, p⟩ fun h' eb => ⟨rfl, I.turned (t' := s.toks) (fun b o hb q => eb b o hb q) f0 f1 f3 f4 f5⟩
  self := fun A i s Q E st h => let ⟨⟨_, he⟩, _⟩ := st; wpAny_pyIter_enum he h
def iEnumT (K : PySem.W.Frag) (ta : TA) : TI := fun σ H R => ta σ H fun vs H1 => ∃ a xs, vs = [.ref a] ∧ SqT K H1 a xs ∧ R (IteT K a) H1
theorem pi_enumT {X : Cx} {e : Expr} {ta : TA} {p pos tpos : Pos} {elts : List Expr} {kk : Nat} (hg : Gl X "enumerate") (hm : X.mg "enumerate" = none) (ha : PA X [e] ta) (hs : starEach [e] X.env = [(false, eval e X.env)] := by rfl) :
    PI X (.Tuple elts kk tpos) (.Call (.Name "enumerate" p) [e] [] pos) (iEnumT X.K ta) := by
  refine ⟨fun pins s σ H R I h => ?_⟩
  refine Call_ (ld_blt I hg hm boot_enumerate (PyProof.Rows.callWith_type1 (thn (ha.run pos pins s σ H _ I h) fun us s1 hz => ?_) hs rfl))
  obtain ⟨vs, H1, I1, r1, a, xs, ex, hq, q⟩ := hz
  subst ex
  cases r1 with
  | cons r rr =>
    cases rr
    cases r
    obtain ⟨its, rv, p', hz⟩ := I1.tuple hq
    refine call_enum1 (begins_tuple a its.toArray) p' fun h' he hit hsz hk => wpAny_pyIter_enum he ?_
    have hal : a < s1.heap.objs.size := p'.lt
    refine ⟨s1.heap.objs.size + 1, [s1.heap.objs.size + 1, s1.heap.objs.size], _, _, H1, rfl, I1.kept (t' := s1.toks) hk, turn_enumT a (s1.heap.objs.size + 1) s1.heap.objs.size,
      ⟨⟨.none, he⟩, ⟨_, hit, rfl, rfl⟩, Nat.succ_ne_self _, Nat.ne_of_lt hal, Nat.ne_of_lt (Nat.lt_succ_of_lt hal)⟩, fun b hb => ?_, q⟩
    have hle : s1.heap.objs.size ≤ b := by
      rcases (show b = s1.heap.objs.size + 1 ∨ b = s1.heap.objs.size by simpa using hb) with z | z
      · rw [z]; exact Nat.le_add_right _ _
      · rw [z]; exact Nat.le_refl _
    exact I1.fpOk hle (I1.hok.fresh hle)
theorem walk_enumT {K : PySem.W.Frag} {a : Addr} {xs : List V} : Walk (IteT K a) xs.length (fun H => SqT K H a xs) (YPair (fun i => some (.int (i : Nat))) (fun i => xs[i]?)) := by
  refine ⟨fun i _ hi q => ⟨xs, xs[i], q, by simp [hi]⟩, fun _ q => ⟨xs, q, Nat.le_refl _⟩, fun i H v H' _ q y => ?_⟩
  obtain ⟨T, x, h1, h2, h3, h4⟩ := y
  exact ⟨T, .int (i : Nat), x, h1, h2, h3, rfl, h4 xs q⟩
theorem walk_zipT {K : PySem.W.Frag} {a b : Addr} {xs ys : List V} {n : Nat} (hn : n = min xs.length ys.length) : Walk (RZ.ItzT K a b) n (fun H => SqT K H a xs ∧ SqT K H b ys) (YPair (fun i => xs[i]?) (fun i => ys[i]?)) := by
  subst hn
  refine ⟨fun i _ hi q => ?_, fun _ q => ⟨xs, ys, q.1, q.2, by omega⟩, fun i H v H' _ q y => ?_⟩
  · have h1 : i < xs.length := by omega
    have h2 : i < ys.length := by omega
    exact ⟨xs, ys, xs[i], ys[i], q.1, q.2, by simp [h1], by simp [h2]⟩
  · obtain ⟨T, x, z, h1, h2, h3, h4, h5⟩ := y
    exact ⟨T, x, z, h1, h2, h3, h4 xs q.1, h5 ys q.2⟩

/-! ### sorted(d.keys()) of a dict of int keys -/
section
variable {X : Cx}
/-- the view r of the keys of the dict at d -/
def ViewO (r d : Addr) : HO := .ext fun h => PySem.W.KdlKeysView h r d
def tKeys (td : TE) : TE := fun σ H Q => td σ H fun x H1 => ∃ d, x = .ref d ∧ (∃ kvs, H1 d = some (.dK kvs)) ∧ ∀ r, H1 r = Option.none → Q (.ref r) (upd H1 r (ViewO r d))
theorem pe_keys {e : Expr} {td : TE} {apos cpos : Pos} (he : PE X e td) (hbase : attributeBase e "keys" X.env (eval e X.env) = eval e X.env := by rfl) (hline : (apos.endLine == cpos.line) = true := by rfl) :
    PE X (.Call (.Attribute e "keys" apos) [] [] cpos) (tKeys td) := by
  refine ⟨fun pins s σ H Q I h => ?_⟩
  refine wpAny_Call_method (T := "dict") (id := "dict.keys") hbase rfl hline F.plainAttrs_dict F.slot_dict_keys F.type_dict_keys (thn (he.run pins s σ H _ I h) fun u s1 hz => ?_)
  obtain ⟨x, H1, I1, rx, d, ex, ⟨kvs, hd⟩, q⟩ := hz
  subst ex
  obtain rfl : u = Value.ref d := rx
  obtain ⟨z, lo, vs, rel, dd⟩ := dk_of I1.hok hd
  refine ⟨dd.typeIs, dd.mapOf.noDict, ?_⟩
  show wpAny _ _ (callWith cpos (.builtin "dict.keys") [.ref d] [] []) _ X.xe s1
  have fin : EP X pins σ Q (.ref s1.heap.objs.size) { s1 with heap := s1.heap.push { cls := .type "dict_keys", data := .fields #[.ref d] } } := by
    refine ⟨.ref s1.heap.objs.size, upd H1 s1.heap.objs.size (ViewO s1.heap.objs.size d), I1.laid (t' := s1.toks) (fun b u e => Heap.get?_push_of_some _ e) (Nat.le_refl _) ?_, rfl, q _ (I1.hok.fresh (Nat.le_refl _))⟩
    refine ⟨⟨_, Heap.get?_push_size _ rfl, rfl, rfl⟩, ⟨_, Heap.get?_push_size _ rfl⟩, fun h1 h2 a b => ?_⟩
    obtain ⟨o, ho, c⟩ := a
    exact ⟨o, b o ho, c⟩
  exact method_meetsIn F.slot_dict_keys F.entry_dict_keys rfl (PySem.evalArgs_none ⟨rfl, dd.typeIs, F.args_dict_keys_1 _, _, PySem.W.kdl_meets_keys (mixKind X.prog X.w) d lo, ⟨vs, dd⟩, fin⟩)
theorem call_sortedK (hcalm : X.calm = true) : CallR X (.builtin "sorted") (fun xs H Q => ∃ (r d : Addr) (kvs : List (Key × V)) (ks : List Int), xs = [.ref r] ∧ H r = some (ViewO r d) ∧ H d = some (.dK kvs) ∧ kvs.map (·.1) = ks.map Sum.inl ∧ ks.length < 64 ∧
    ∀ (ys : List Int) (p : Addr), ys.Perm ks → ys.Pairwise (· ≤ ·) → H p = Option.none → Q (.ref p) (upd H p (.lst (ys.map V.int)))) := by
  intro pins s σ H xs us Q I rr q
  obtain ⟨r, d, kvs, ks, ex, hr, hd, hks, h64, q⟩ := q
  subst ex
  obtain ⟨u, eu, rx⟩ := vals1 rr
  subst eu
  cases rx
  have hv : PySem.W.KdlKeysView s.heap r d := (I.hok r _ hr).1
  obtain ⟨z, lo, vs, rel, dd⟩ := dk_of I.hok hd
  obtain ⟨ep, hat⟩ := dd.dictAt
  have hkeys : vs.map (·.1) = ks.map Sum.inl := rel.keys.symm.trans hks
  have hl : vs.length = ks.length := by simpa using congrArg List.length hkeys
  have h16 : vs.length ≤ sizeLine := by rw [hl, sizeLine_eq]; omega
  refine Calls.call_function_entry PyProof.Rows.kind_sorted PyProof.Rows.plain_sorted PyProof.Rows.entry_sorted (PyProof.Rows.args_sorted1 _) ?_
  unfold Builtin.«sorted»
  refine wpAny_bind (m := checkCount "sorted" 1 1 _) (wpAny_pure ?_)
  refine wpAny_bind (PySem.W.kdu_collect (A := X.A.in1) (PySem.W.kdl_keys (knd := mixKind X.prog X.w) (r := r) (d := d) (kvs := vs) (ep := ep)) (I.ok.hd hcalm) ⟨hv, hat⟩ h16 fun h' tk acc hk hacc => ?_)
  have hal : acc.toList.length = ks.length := by rw [Array.length_toList, hacc.1, hl]
  have hS : IntsAre acc.toList ks := ints_each hal fun j v e => by
    obtain ⟨k, x, e1, e2⟩ := hacc.2 j v (by rw [← Array.getElem?_toList]; exact e)
    have e3 : (vs.map (·.1))[j]? = some k := by rw [List.getElem?_map, e1]; rfl
    rw [hkeys, List.getElem?_map] at e3
    obtain ⟨y, ey, e4⟩ := Option.map_eq_some_iff.mp e3
    subst e4
    rcases keyIs_shape (show keyIs (Sum.inl y) v = true from e2) with ⟨i, t, ek, ev⟩ | ⟨_, t, ek, ev⟩
    · cases ek
      exact ⟨y, t, ey, ev⟩
    · cases ek
  have I1 : Inv X pins σ H { s with heap := h', toks := tk } := I.kept hk
  refine wpAny_bind (wpAny_newList ?_ (by rw [hal, sizeLine_eq]; omega))
  have hoL : (h'.push (seqObj "list" acc.toList.toArray 0)).get? h'.objs.size = some (seqObj "list" acc.toList.toArray 0) := Heap.get?_push_size _ rfl
  show wpAny _ _ _ _ _ { s with heap := h'.push (seqObj "list" acc.toList.toArray 0), toks := tk }
  refine wpAny_bind (wpAny_holding (wpAny_call_entry PyProof.Rows.slot_list_sort ⟨_, hoL, rfl⟩ PyProof.Rows.entry_list_sort
    (PyProof.Rows.list_sort_tree (s := { s with heap := h'.push (seqObj "list" acc.toList.toArray 0), toks := tk }) hoL hS (by rw [hal]; exact h64) fun out ys g1 g2 g3 => ⟨_, rfl, ?_⟩) (PyProof.Rows.args_list_sort _)))
  obtain ⟨e', he'⟩ := PyProof.Rows.sortedHeap_at (vs := acc.toList) (out := out) hoL
  have hlen : (ys.map V.int).length ≤ sizeLine := by
    rw [List.length_map, g2.length_eq]
    exact Nat.le_trans (Nat.le_of_lt h64) (by decide)
  refine wpAny_pure ⟨_, rfl, .ref h'.objs.size, upd H h'.objs.size (.lst (ys.map V.int)), I1.laid (t' := tk) (fun b u e => ?_) (Nat.le_refl _)
    (show ObjOk X.prog X.w _ _ _ (.lst (ys.map V.int)) from ⟨hlen, out.toList, e', vals_of_ints g1, by rw [Array.toArray_toList]; exact he'⟩), rfl, q ys _ g2 g3 (I1.hok.fresh (Nat.le_refl _))⟩
  have hb : b < h'.objs.size := Heap.lt_size e
  rw [PyProof.Rows.sortedHeap_old (Nat.ne_of_lt hb) (by rw [size_push']; exact Nat.lt_succ_of_lt hb)]
  exact Heap.get?_push_of_some _ e
end
end Cm

/-! a dict of things by births -/
namespace Cm
open PySem L2
/-- a thing: a word, then data without lists -/
def windD (b : Int) : PyData := .tuple [.str "wind", .int (1000 + b), .int (2000 + b)]
def wordD : PyData → Str
  | .tuple (.str x :: _) => x
  | _ => ""
structure Th (b : Int) (d : PyData) : Prop where
  ex : ∃ (wd : Str) (r : List PyData), d = .tuple (.str wd :: r)
  fl : flatD d = true
  ok : okD d = true
  dp : d.depth ≤ 8
  wt : d.weight ≤ 4000
  wn : wordD d = "wind" → d = windD b
/-- the dict at d holds es -/
structure ThAt (K : PySem.W.Frag) (H : Hp) (d : Addr) (es : List (Int × PyData)) (kvs : List (Key × V)) : Prop where
  at_ : H d = some (.dK kvs)
  ks : kvs.map (·.1) = es.map (fun e => Sum.inl e.1)
  vs : DpAll K H (kvs.map (·.2)) (es.map (·.2))
  th : ∀ e ∈ es, Th e.1 e.2
def thg (es : List (Int × PyData)) (b : Int) : PyData := ((es.find? fun e => decide (e.1 = b)).map (·.2)).getD .none
def word (es : List (Int × PyData)) (b : Int) : Str := wordD (thg es b)
theorem th_find {K : PySem.W.Frag} {H : Hp} (b : Int) : ∀ (es : List (Int × PyData)) (kvs : List (Key × V)), kvs.map (·.1) = es.map (fun e => (Sum.inl e.1 : Key)) → DpAll K H (kvs.map (·.2)) (es.map (·.2)) →
    b ∈ es.map (·.1) → ∃ v, valV kvs (Sum.inl b) = some v ∧ Dp K H v (thg es b) ∧ (b, thg es b) ∈ es
  | [], _, _, _, m => by simp at m
  | e :: es, kvs, hk, hv, m => by
    cases kvs with
    | nil => simp at hk
    | cons a kvs =>
      simp only [List.map_cons, List.cons.injEq] at hk
      cases hv with
      | cons h1 h2 =>
        by_cases q : e.1 = b
        · refine ⟨a.2, ?_, ?_, ?_⟩
          · unfold valV
            rw [List.find?_cons_of_pos (by rw [hk.1, q]; simp)]
            rfl
          · have : thg (e :: es) b = e.2 := by
              unfold thg
              rw [List.find?_cons_of_pos (by simp [q])]
              rfl
            rw [this]
            exact h1
          · have : thg (e :: es) b = e.2 := by
              unfold thg
              rw [List.find?_cons_of_pos (by simp [q])]
              rfl
            rw [this, ← q]
            exact List.mem_cons_self
        · have m' : b ∈ es.map (·.1) := by
            simp only [List.map_cons, List.mem_cons] at m
            rcases m with m | m
            · exact absurd m.symm q
            · exact m
          obtain ⟨v, g1, g2, g3⟩ := th_find b es kvs hk.2 h2 m'
          have e2 : thg (e :: es) b = thg es b := by
            unfold thg
            rw [List.find?_cons_of_neg (by simpa using q)]
          refine ⟨v, ?_, by rw [e2]; exact g2, by rw [e2]; exact List.mem_cons_of_mem _ g3⟩
          unfold valV at g1 ⊢
          rw [List.find?_cons_of_neg (by rw [hk.1]; simpa using q)]
          exact g1
theorem ThAt.get {K : PySem.W.Frag} {H : Hp} {d : Addr} {es : List (Int × PyData)} {kvs : List (Key × V)} (x : ThAt K H d es kvs) {b : Int} (m : b ∈ es.map (·.1)) :
    ∃ (p : Addr) (its : List V), DGet H d (.int b) (some (.ref p)) ∧ SqT K H p its ∧ atI its 0 = some (.str (word es b)) ∧ Dp K H (.ref p) (thg es b) ∧ Th b (thg es b) := by
  obtain ⟨v, h1, h2, h3⟩ := th_find b es kvs x.ks x.vs m
  have t : Th b (thg es b) := x.th _ h3
  obtain ⟨wd, r, ed⟩ := t.ex
  have h2' := h2
  have e3 : word es b = wd := by
    unfold word
    rw [ed]
    rfl
  rw [ed] at h2'
  cases h2' with
  | @tup a its ds hs ha =>
    refine ⟨a, its, ?_, hs, ?_, by rw [ed]; exact .tup hs ha, t⟩
    · have q := DGet.k (k := Sum.inl b) x.at_
      rw [h1] at q
      exact q
    · rw [e3]
      cases ha with
      | cons q1 q2 =>
        cases q1
        exact atI_nat (j := 0) rfl
theorem putK_end {kvs : List (Key × V)} {k : Key} {v : V} (h : ∀ p ∈ kvs, p.1 ≠ k) : putK kvs k v = kvs ++ [(k, v)] := by
  unfold putK
  rw [if_neg]
  intro q
  obtain ⟨p, hp, e⟩ := List.any_eq_true.mp q
  exact h p hp (of_decide_eq_true e)
theorem decS {x y : Str} : decide (V.str x = V.str y) = decide (x = y) := by
  by_cases q : x = y
  · rw [q]; simp
  · rw [decide_eq_false q, decide_eq_false (fun z => q (V.str.inj z))]
theorem ThAt.same {K : PySem.W.Frag} {H H' : Hp} {d : Addr} {es : List (Int × PyData)} {kvs : List (Key × V)} (x : ThAt K H d es kvs) (s : Same H H') : ThAt K H' d es kvs :=
  ⟨s _ _ x.at_, x.ks, dps_same s _ _ x.vs, x.th⟩
theorem flatDs_of : ∀ ds : List PyData, (∀ d ∈ ds, flatD d = true) → flatDs ds = true
  | [], _ => rfl
  | d :: ds, h => by simp [flatDs, h d List.mem_cons_self, flatDs_of ds fun x hx => h x (List.mem_cons_of_mem _ hx)]
theorem ThAt.fl {K : PySem.W.Frag} {H : Hp} {d : Addr} {es : List (Int × PyData)} {kvs : List (Key × V)} (x : ThAt K H d es kvs) : flatDs (es.map (·.2)) = true :=
  flatDs_of _ fun z hz => by
    obtain ⟨e, he, rfl⟩ := List.mem_map.mp hz
    exact (x.th e he).fl
theorem ThAt.kp {M : Addr → Prop} {K : PySem.W.Frag} {H H' : Hp} {d : Addr} {es : List (Int × PyData)} {kvs : List (Key × V)} (x : ThAt K H d es kvs) (k : Kp M H H') (n : ¬ M d) : ThAt K H' d es kvs :=
  ⟨k.st _ _ n x.at_, x.ks, dps_keep (fun _ _ h => k.tup h) _ _ x.fl x.vs, x.th⟩
theorem wt_int {i : Int} (h : i.natAbs < 10 ^ 12) : PyData.weight (.int i) ≤ 64 := by
  simp only [PyData.weight]
  split
  · omega
  · rename_i q
    have q' : i.natAbs ≠ 0 := by
      intro z
      apply q
      simp
      omega
    have := (Nat.log2_lt q').mpr (show i.natAbs < 2 ^ 63 from Nat.lt_of_lt_of_le h (by decide))
    omega
theorem ThAt.snoc {K : PySem.W.Frag} {H : Hp} {d : Addr} {es : List (Int × PyData)} {kvs : List (Key × V)} (x : ThAt K H d es kvs) {b : Int} {v : V} {t : PyData} (n : b ∉ es.map (·.1)) (hv : Dp K H v t) (ht : Th b t) :
    ThAt K (upd H d (.dK (putK kvs (Sum.inl b) v))) d (es ++ [(b, t)]) (putK kvs (Sum.inl b) v) := by
  have e1 : putK kvs (Sum.inl b) v = kvs ++ [(Sum.inl b, v)] := putK_end fun p hp q => n (by
    have : p.1 ∈ kvs.map (·.1) := List.mem_map.mpr ⟨p, hp, rfl⟩
    rw [x.ks] at this
    obtain ⟨e, he, e2⟩ := List.mem_map.mp this
    rw [q] at e2
    exact List.mem_map.mpr ⟨e, he, Sum.inl.inj e2⟩)
  have keep : ∀ a xs, SqT K H a xs → SqT K (upd H d (.dK (putK kvs (Sum.inl b) v))) a xs := fun a xs h => by
    rcases h with (h | ⟨o, h⟩) | h
    · exact .inl (.inl (by rw [upd_ne (ne_of h x.at_ (by intro z; cases z))]; exact h))
    · exact .inl (.inr ⟨o, by rw [upd_ne (ne_of h x.at_ (by intro z; cases z))]; exact h⟩)
    · exact .inr h
  refine ⟨upd_same, ?_, ?_, ?_⟩
  · rw [e1, List.map_append, List.map_append, x.ks]
    rfl
  · have h1 := dps_keep keep _ _ x.fl x.vs
    have h2 := dp_keep keep _ _ ht.fl hv
    rw [show (putK kvs (Sum.inl b) v).map (·.2) = kvs.map (·.2) ++ [v] by rw [e1, List.map_append]; rfl, List.map_append]
    exact DpAll.snoc h2 h1
  · intro e he
    rcases List.mem_append.mp he with he | he
    · exact x.th e he
    · cases List.mem_singleton.mp he
      exact ht
theorem Kp.mut {M : Addr → Prop} {H H' : Hp} {d : Addr} {o : HO} (k : Kp M H H') (hd : H d = Option.none) : Kp M H (upd H' d o) :=
  ⟨fun a u n e => by
    rw [upd_ne (ne_of_none e hd)]
    exact k.st a u n e, k.l1, fun a m => by
    have q : a ≠ d := fun q => k.m_of hd (q ▸ m)
    rw [upd_ne q]
    exact k.l2 a m⟩
theorem Hand.put {H : Hp} {h c d : Addr} {o : HO} (x : Hand H h c) (n : ∀ xs, H d ≠ some (.lst xs)) : Hand (upd H d o) h c := by
  obtain ⟨cells, i, b, t, e1, e2, q⟩ := x
  refine ⟨cells, i, b, t, ?_, ?_, q⟩
  · rw [upd_ne (fun z => n _ (z ▸ e1))]
    exact e1
  · rw [upd_ne (fun z => n _ (z ▸ e2))]
    exact e2
theorem Hand.puts {H : Hp} {h c d : Addr} {o : HO} (x : Hand H h c) (n1 : d ≠ h) (n2 : d ≠ c) : Hand (upd H d o) h c := by
  obtain ⟨cells, i, b, t, e1, e2, q⟩ := x
  exact ⟨cells, i, b, t, by rw [upd_ne (Ne.symm n1)]; exact e1, by rw [upd_ne (Ne.symm n2)]; exact e2, q⟩
theorem Hand.there {H : Hp} {h c d : Addr} (x : Hand H h c) (n : H d = Option.none) : d ≠ h ∧ d ≠ c := by
  obtain ⟨cells, i, b, t, e1, e2, q⟩ := x
  exact ⟨(ne_of_none e1 n).symm, (ne_of_none e2 n).symm⟩
theorem Hand.ne {H : Hp} {h c d : Addr} (x : Hand H h c) (n : ∀ xs, H d ≠ some (.lst xs)) : d ≠ h := fun z => by
  obtain ⟨xs, e⟩ := x.lst
  exact n xs (z ▸ e)
/-- 1 .. n -/
def births (n : Nat) : List Int := (List.range n).map fun (i : Nat) => (i : Int) + 1
theorem births_succ (n : Nat) : births (n + 1) = births n ++ [(n : Int) + 1] := by
  unfold births
  rw [List.range_succ, List.map_append]
  rfl
theorem births_mem {n : Nat} {b : Int} : b ∈ births n ↔ 1 ≤ b ∧ b ≤ n := by
  unfold births
  rw [List.mem_map]
  constructor
  · rintro ⟨i, hi, rfl⟩
    have := List.mem_range.mp hi
    omega
  · intro q
    exact ⟨(b - 1).toNat, List.mem_range.mpr (by omega), by omega⟩
/-- a new thing is put at the next birth -/
theorem things_put {K : PySem.W.Frag} {H H3 : Hp} {h c d : Addr} {es : List (Int × PyData)} {kvs : List (Key × V)} {i : Nat} {v : V} {t : PyData} (kh : Kh h H H3) (hh : Hand H3 h c) (x : ThAt K H3 d es kvs) (hd : H d = Option.none)
    (hk : es.map (·.1) = births i) (hi : i < 1000) (hv : Dp K H3 v t) (ht : Th (1 + i) t) :
    ∃ H4 es' kvs', DPut H3 d (.int (1 + (i : Nat))) v H4 ∧ Kh h H H4 ∧ Hand H4 h c ∧ ThAt K H4 d es' kvs' ∧ es'.map (·.1) = births (i + 1) := by
  have hb : (1 : Int) + i ∉ es.map (·.1) := by
    rw [hk, births_mem]
    omega
  have hl : kvs.length < sizeLine := by
    have e := congrArg List.length x.ks
    rw [List.length_map, List.length_map] at e
    have e2 := congrArg List.length hk
    rw [List.length_map] at e2
    have e3 : (births i).length = i := by unfold births; rw [List.length_map, List.length_range]
    rw [e, e2, e3]
    exact Nat.lt_trans hi (by decide)
  refine ⟨_, _, _, DPut.k (k := Sum.inl (1 + (i : Int))) x.at_ hl, kh.mut hd, hh.put (fun xs e => by rw [x.at_] at e; cases e), x.snoc hb hv ht, ?_⟩
  rw [List.map_append, hk, births_succ]
  show births i ++ [1 + (i : Int)] = _
  rw [show (1 : Int) + i = i + 1 by omega]
theorem births_len (n : Nat) : (births n).length = n := by
  unfold births
  rw [List.length_map, List.length_range]
end Cm

/-! comprehensions over data -/
namespace Cm
open PySem L2
theorem sqt_put {K : PySem.W.Frag} {H : Hp} {D a : Addr} {xs ys zs : List V} (h : H D = some (.lst ys)) (q : SqT K H a xs) : SqT K (upd H D (.lst zs)) a xs := by
  rcases q with (q | ⟨o, q⟩) | q
  · exact .inl (.inl (by rw [upd_ne (ne_of q h (by intro z; cases z))]; exact q))
  · exact .inl (.inr ⟨o, by rw [upd_ne (ne_of q h (by intro z; cases z))]; exact q⟩)
  · exact .inr q
theorem same_put {H H' : Hp} {D : Addr} {o : HO} (s : Same H H') (h : H D = Option.none) : Same H (upd H' D o) := fun b u e => by
  rw [upd_ne (ne_of_none e h)]
  exact s b u e
theorem sqt_same {K : PySem.W.Frag} {H H' : Hp} {a : Addr} {xs : List V} (s : Same H H') (h : SqT K H a xs) : SqT K H' a xs := by
  rcases h with (h | ⟨o, h⟩) | h
  · exact .inl (.inl (s _ _ h))
  · exact .inl (.inr ⟨o, s _ _ h⟩)
  · exact .inr h
theorem flatDs_all {ds : List PyData} (h : flatDs ds = true) : ∀ d ∈ ds, flatD d = true := by
  induction ds with
  | nil => intro d hd; cases hd
  | cons a r ih =>
    have h' : flatD a = true ∧ flatDs r = true := by simpa [flatDs] using h
    intro d hd
    rcases List.mem_cons.mp hd with rfl | hd
    · exact h'.1
    · exact ih h'.2 d hd
theorem flatDs_app {ds es : List PyData} (h1 : flatDs ds = true) (h2 : flatDs es = true) : flatDs (ds ++ es) = true :=
  flatDs_of _ fun d hd => by
    rcases List.mem_append.mp hd with q | q
    · exact flatDs_all h1 d q
    · exact flatDs_all h2 d q
theorem walk_upto {n : Nat} : Walk (Itr 0 n) n (fun _ => True) (YFn fun i => .int ((i : Nat) : Int)) :=
  ⟨fun _ _ hi _ => hi, fun _ _ => Nat.le_refl _, fun i H x H' _ _ y => ⟨y.1, by
    have := y.2
    rw [Int.zero_add] at this
    exact this⟩⟩
/-! ### the same rules where the context is a comprehension's block: K is said -/
section
variable {X : Cx} {K : PySem.W.Frag}
theorem kx_tup (h : X.K = K := by rfl) : IxR X (rIxT K) := by subst h; exact ix_tup
theorem kx_list (h : X.K = K := by rfl) : IxR X (rIxL K) := by subst h; exact ix_list
theorem kx_seq (h : X.K = K := by rfl) : IxR X (rIx K) := by subst h; exact ix_seq
theorem ko_eqD (hu : X.A.units + 64 < cLine) (h : X.K = K := by rfl) : OpR X (compareOp .Eq) (rEqD K) := by subst h; exact op_eqD hu
theorem ko_neD (hu : X.A.units + 64 < cLine) (h : X.K = K := by rfl) : OpR X (compareOp .NotEq) (rNeD K) := by subst h; exact op_neD hu
theorem ko_in (h : X.K = K := by rfl) : OpR X (compareOp .In) (rIn K false) := by subst h; exact op_in_seq
theorem ko_notIn (h : X.K = K := by rfl) : OpR X (compareOp .NotIn) (rIn K true) := by subst h; exact op_notIn_seq
theorem ko_catA (h : X.K = K := by rfl) : OpR X (binaryOp .Add) (rCatA K) := by subst h; exact op_catA
def rLen (K : PySem.W.Frag) : List V → Hp → VK → Prop := fun xs H Q => ∃ p ys, xs = [.ref p] ∧ (SqL K H p ys ∨ SqT K H p ys) ∧ Q (.int ys.length) H
theorem kc_len (h : X.K = K := by rfl) : CallR X (.builtin "len") (rLen K) := by subst h; exact call_len_seq
end
/-- a comprehension whose items are data without lists: R i is the i-th turn's, none if it is left out -/
theorem lc_data {K : PySem.W.Frag} {J : It} {n : Nat} {G : Hp → Prop} {Y : Nat → Hp → V → Hp → Prop} (wk : Walk J n G Y) {g : TG} {tt : TT} {te : TE} {vs : List Nat} {σ : L2.St} {H1 : Hp} {D : Addr} {Qd : Hp → Prop} (R : Nat → Option PyData)
    (hD : H1 D = Option.none) (hn : n ≤ 100000) (hG : ∀ H, Same H1 H → G H) (hfl : ∀ i < n, ∀ d, R i = some d → flatD d = true)
    (hs : ∀ i x H H', i < n → Same H1 H → Y i H x H' → ∀ (Q1 : VK) (Q0 : Hp → Prop), (∀ v H4 d, R i = some d → Same H H4 → Dp K H4 v d → Q1 v H4) → (∀ H3, R i = none → Same H H3 → Q0 H3) →
      g x (wipe σ vs) H' fun σ2 H2 => wipe σ2 vs = wipe σ vs ∧ tt σ2 H2 fun b H3 => if b = true then te σ2 H3 Q1 else Q0 H3)
    (hd : ∀ H acc, Same H1 H → H D = some (.lst acc) → DpAll K H acc ((List.range n).filterMap R) → Qd H) :
    ∃ W : Nat → Nat → Hp → Prop, (∃ m, W 0 m (upd H1 D (.lst []))) ∧ ∀ i m H, W i m H →
      (J.stop i H ∧ Qd H) ∨ (J.go i H ∧ ∃ Nx : Hp → Prop, (∀ H', Nx H' → ∃ m', m' < m ∧ W (i + 1) m' H') ∧ ∀ x H', J.yld i H x H' → g x (wipe σ vs) H' fun σ2 H2 => wipe σ2 vs = wipe σ vs ∧ tt σ2 H2 fun b H3 =>
        if b = true then te σ2 H3 fun y H4 => ∃ acc, H4 D = some (.lst acc) ∧ acc.length < sizeLine ∧ Nx (upd H4 D (.lst (acc ++ [y]))) else Nx H3) := by
  have fl : ∀ i ≤ n, flatDs ((List.range i).filterMap R) = true := fun i hi => flatDs_of _ fun d hd => by
    obtain ⟨j, hj, e⟩ := List.mem_filterMap.mp hd
    exact hfl j (by have := List.mem_range.mp hj; omega) d e
  refine lc_it wk (fun i H => ∃ acc, Same H1 H ∧ H D = some (.lst acc) ∧ DpAll K H acc ((List.range i).filterMap R) ∧ acc.length ≤ i) ⟨[], same_new hD, upd_same, .nil, Nat.le_refl _⟩ (fun i H _ z => ?_) ?_ ?_
  · obtain ⟨acc, s, _⟩ := z
    exact hG H s
  · rintro i x H H' hi ⟨acc, s, hacc, ha, hl⟩ y
    refine hs i x H H' hi s y _ _ (fun v H4 d e s4 hv => ?_) (fun H3 e s3 => ?_)
    · have hD4 := s4 _ _ hacc
      refine ⟨acc, hD4, Nat.lt_of_le_of_lt hl (Nat.lt_of_lt_of_le (show i < 100000 by omega) (by decide)), acc ++ [v], same_put (s.trans s4) hD, upd_same, ?_, by rw [List.length_append]; exact Nat.succ_le_succ hl⟩
      rw [List.range_succ, List.filterMap_append]
      have e1 : ([i].filterMap R) = [d] := by simp [e]
      rw [e1]
      exact DpAll.snoc (dp_keep (fun _ _ q => sqt_put hD4 q) _ _ (hfl i hi d e) hv) (dps_keep (fun _ _ q => sqt_put hD4 q) _ _ (fl i (by omega)) (dps_same s4 _ _ ha))
    · refine ⟨acc, s.trans s3, s3 _ _ hacc, ?_, by omega⟩
      rw [List.range_succ, List.filterMap_append]
      have e1 : ([i].filterMap R) = [] := by simp [e]
      rw [e1, List.append_nil]
      exact dps_same s3 _ _ ha
  · rintro H ⟨acc, s, hacc, ha, _⟩
    exact hd H acc s hacc ha
/-- a comprehension that draws: each item is data that is good -/
theorem lc_draw {K : PySem.W.Frag} {M : Addr → Prop} {J : It} {n : Nat} {G : Hp → Prop} {Y : Nat → Hp → V → Hp → Prop} (wk : Walk J n G Y) {g : TG} {tt : TT} {te : TE} {vs : List Nat} {σ : L2.St} {H1 : Hp} {D : Addr} {Qd : Hp → Prop}
    (I : Hp → Prop) (Gd : PyData → Prop) (hM : ∀ a, M a → ∃ xs, H1 a = some (.lst xs)) (h0 : I (upd H1 D (.lst []))) (hI : ∀ H ys, Kp M H1 H → I H → I (upd H D (.lst ys)))
    (hD : H1 D = Option.none) (hn : n ≤ 100000) (hG : ∀ H, Kp M H1 H → I H → G H) (hfl : ∀ d, Gd d → flatD d = true)
    (hs : ∀ i x H H', i < n → Kp M H1 H → I H → Y i H x H' → ∀ (Q1 : VK) (Q0 : Hp → Prop), (∀ v H4 d, Gd d → Kp M H H4 → I H4 → Dp K H4 v d → Q1 v H4) → (∀ H3, Kp M H H3 → I H3 → Q0 H3) →
      g x (wipe σ vs) H' fun σ2 H2 => wipe σ2 vs = wipe σ vs ∧ tt σ2 H2 fun b H3 => if b = true then te σ2 H3 Q1 else Q0 H3)
    (hd : ∀ H acc ds, Kp M H1 H → I H → H D = some (.lst acc) → DpAll K H acc ds → (∀ d ∈ ds, Gd d) → ds.length ≤ n → Qd H) :
    ∃ W : Nat → Nat → Hp → Prop, (∃ m, W 0 m (upd H1 D (.lst []))) ∧ ∀ i m H, W i m H →
      (J.stop i H ∧ Qd H) ∨ (J.go i H ∧ ∃ Nx : Hp → Prop, (∀ H', Nx H' → ∃ m', m' < m ∧ W (i + 1) m' H') ∧ ∀ x H', J.yld i H x H' → g x (wipe σ vs) H' fun σ2 H2 => wipe σ2 vs = wipe σ vs ∧ tt σ2 H2 fun b H3 =>
        if b = true then te σ2 H3 fun y H4 => ∃ acc, H4 D = some (.lst acc) ∧ acc.length < sizeLine ∧ Nx (upd H4 D (.lst (acc ++ [y]))) else Nx H3) := by
  have nM : ¬ M D := fun m => by
    obtain ⟨xs, e⟩ := hM D m
    rw [hD] at e
    cases e
  refine lc_it wk (fun i H => ∃ acc ds, Kp M H1 H ∧ I H ∧ H D = some (.lst acc) ∧ DpAll K H acc ds ∧ (∀ d ∈ ds, Gd d) ∧ ds.length ≤ i) ⟨[], [], Kp.new hM hD, h0, upd_same, .nil, (by intro d hd; cases hd), Nat.le_refl _⟩ (fun i H _ z => ?_) ?_ ?_
  · obtain ⟨acc, ds, s, iH, _⟩ := z
    exact hG H s iH
  · rintro i x H H' hi ⟨acc, ds, s, iH, hacc, ha, hg, hl⟩ y
    have fl : flatDs ds = true := flatDs_of _ fun d hd => hfl d (hg d hd)
    refine hs i x H H' hi s iH y _ _ (fun v H4 d e s4 i4 hv => ?_) (fun H3 s3 i3 => ?_)
    · have hD4 := s4.st _ _ nM hacc
      refine ⟨acc, hD4, ?_, acc ++ [v], ds ++ [d], (s.trans s4).mut hD, hI _ _ (s.trans s4) i4, upd_same, ?_, ?_, by rw [List.length_append]; exact Nat.succ_le_succ hl⟩
      · rw [DpAll.len ha]
        exact Nat.lt_of_le_of_lt hl (Nat.lt_of_lt_of_le (show i < 100000 by omega) (by decide))
      · exact DpAll.snoc (dp_keep (fun _ _ q => sqt_put hD4 q) _ _ (hfl d e) hv) (dps_keep (fun _ _ q => sqt_put hD4 q) _ _ fl (dps_keep (fun _ _ q => s4.tup q) _ _ fl ha))
      · intro d' hd'
        rcases List.mem_append.mp hd' with q | q
        · exact hg d' q
        · cases List.mem_singleton.mp q
          exact e
    · exact ⟨acc, ds, s.trans s3, i3, s3.st _ _ nM hacc, dps_keep (fun _ _ q => s3.tup q) _ _ fl ha, hg, by omega⟩
  · rintro H ⟨acc, ds, s, iH, hacc, ha, hg, hl⟩
    exact hd H acc ds s iH hacc ha hg hl
/-! ### data that repr takes -/
structure Sm (D W : Nat) (d : PyData) : Prop where
  ok : okD d = true
  dp : d.depth ≤ D
  wt : d.weight ≤ W
theorem Sm.mono {D W D' W' : Nat} {d : PyData} (x : Sm D W d) (h1 : D ≤ D') (h2 : W ≤ W') : Sm D' W' d := ⟨x.ok, Nat.le_trans x.dp h1, Nat.le_trans x.wt h2⟩
theorem sm_int {i : Int} (h : i.natAbs < 10 ^ 12) : Sm 0 64 (.int i) := ⟨by simp only [okD]; exact decide_eq_true h, by simp [PyData.depth], wt_int h⟩
theorem sm_all {D W : Nat} : ∀ {ds : List PyData}, (∀ d ∈ ds, Sm D W d) → okDs ds = true ∧ PyData.depthAll ds ≤ D ∧ PyData.weightAll ds ≤ ds.length * (W + 2)
  | [], _ => ⟨rfl, by simp [PyData.depthAll], by simp [PyData.weightAll]⟩
  | d :: ds, h => by
    have a := h d List.mem_cons_self
    obtain ⟨b1, b2, b3⟩ := sm_all (ds := ds) fun x hx => h x (List.mem_cons_of_mem _ hx)
    refine ⟨by simp [okDs, a.ok, b1], ?_, ?_⟩
    · have := a.dp
      simp only [PyData.depthAll]
      omega
    · have := a.wt
      simp only [PyData.weightAll, List.length_cons, Nat.add_mul]
      omega
theorem Sm.tuple {D W m : Nat} {ds : List PyData} (h : ∀ d ∈ ds, Sm D W d) (hm : ds.length ≤ m) : Sm (D + 1) (m * (W + 2)) (.tuple ds) := by
  obtain ⟨a, b, c⟩ := sm_all h
  refine ⟨by simpa [okD] using a, ?_, ?_⟩
  · simp only [PyData.depth]
    omega
  · simp only [PyData.weight]
    exact Nat.le_trans c (Nat.mul_le_mul_right _ hm)
theorem Sm.rep {K : PySem.W.Frag} {H : Hp} {x : V} {D W : Nat} {d : PyData} {Q : VK} (s : Sm D W d) (h1 : D ≤ 60) (h2 : W ≤ 2 ^ 20) (hd : Rp K H x d) (q : Q (.str d.shown) H) : rRepr K [x] H Q :=
  ⟨x, d, rfl, hd, s.ok, Nat.le_trans s.dp h1, Nat.le_trans s.wt h2, q⟩
theorem sm_kv {D W : Nat} : ∀ {es : List (Int × PyData)}, (∀ e ∈ es, e.1.natAbs < 10 ^ 12 ∧ Sm D W e.2) → okDk (es.map fun e => (PyData.int e.1, e.2)) = true ∧ PyData.depthKv (es.map fun e => (PyData.int e.1, e.2)) ≤ D ∧ PyData.weightKv (es.map fun e => (PyData.int e.1, e.2)) ≤ es.length * (W + 70)
  | [], _ => ⟨rfl, by simp [PyData.depthKv], by simp [PyData.weightKv]⟩
  | e :: es, h => by
    obtain ⟨a1, a⟩ := h e List.mem_cons_self
    obtain ⟨b1, b2, b3⟩ := sm_kv (es := es) fun x hx => h x (List.mem_cons_of_mem _ hx)
    have i := sm_int a1
    refine ⟨by simp [okDk, a.ok, b1, i.ok], ?_, ?_⟩
    · have := a.dp
      have := i.dp
      simp only [List.map_cons, PyData.depthKv]
      omega
    · have := a.wt
      have := i.wt
      simp only [List.map_cons, PyData.weightKv, List.length_cons, Nat.add_mul] at this ⊢
      omega
/-- what repr is asked of -/
def Rok (K : PySem.W.Frag) (H : Hp) (x : V) (d : PyData) : Prop := Rp K H x d ∧ okD d = true ∧ d.depth ≤ 60 ∧ d.weight ≤ 2 ^ 20
theorem Sm.rok {K : PySem.W.Frag} {H : Hp} {x : V} {D W : Nat} {d : PyData} (s : Sm D W d) (h1 : D ≤ 60) (h2 : W ≤ 2 ^ 20) (hd : Rp K H x d) : Rok K H x d :=
  ⟨hd, s.ok, Nat.le_trans s.dp h1, Nat.le_trans s.wt h2⟩
/-- the whole dict of things -/
theorem ThAt.rok {K : PySem.W.Frag} {H : Hp} {d : Addr} {es : List (Int × PyData)} {kvs : List (Key × V)} (x : ThAt K H d es kvs) {n : Nat} (hk : es.map (·.1) = births n) (hn : n ≤ 100) : Rok K H (.ref d) (PyData.dict (es.map fun e => (PyData.int e.1, e.2))) := by
  obtain ⟨a, b, c⟩ := sm_kv (D := 8) (W := 4000) (es := es) fun e he => by
    have m : e.1 ∈ births n := by rw [← hk]; exact List.mem_map.mpr ⟨e, he, rfl⟩
    have := births_mem.mp m
    exact ⟨by omega, ⟨(x.th e he).ok, (x.th e he).dp, (x.th e he).wt⟩⟩
  have hl : es.length = n := by
    have e := congrArg List.length hk
    rw [List.length_map, births_len] at e
    exact e
  refine ⟨.inr ⟨d, kvs, es, rfl, x.at_, x.ks, x.vs, x.fl, rfl⟩, by simpa [okD] using a, ?_, ?_⟩
  · simp only [PyData.depth]
    omega
  · simp only [PyData.weight]
    refine Nat.le_trans c ?_
    rw [hl]
    exact Nat.le_trans (Nat.mul_le_mul_right _ hn) (by decide)
end Cm

/-! defs that may ask repr, called by name where nothing is under repr -/
namespace Cm
open PySem L2 PySem.Spec PyProof.Rows
structure ClG (P : Program) (w : World) (K : PySem.W.Frag) (mg : Str → Option Value) (base : Heap) (k : Nat) (x : Str) (sp : Sp) : Prop where
  ex : ∃ (f : Addr) (fd : FuncData) (ps : List Str), (∀ vs H Q E, sp vs H Q E → vs.length = ps.length) ∧ LawAt P w K mg base k f fd ps sp ∧ mg x = some (.ref f) ∧ PySem.W.keepIn K (.ref f) = true ∧ Binds K fd ps []
section
variable {P : Program} {w : World} {K : PySem.W.Frag} {mg : Str → Option Value} {base : Heap}
theorem clG_of {x : Str} {st : Stmt} {N ps : List Str} {k : Nat} {sp : Sp} (T : At K mg x st ps) (S : FnScope N ps (defScope st))
    (len : ∀ vs H Q E, sp vs H Q E → vs.length = ps.length)
    (hb : ∀ (f : Addr) (cdv : Value) (A : Around) (outer : List Env) (s : Shared) (H : Hp) (vs : List V) (Q : VK) (E : XK), (A.deeper (envOfC x (defScope st) s.heap.objs.size f cdv)).guards = some [] →
      Room k (A.deeper (envOfC x (defScope st) s.heap.objs.size f cdv)) → sp vs H Q E →
      ∃ t, PSs (cxOf CX0 P w K mg base N x (defScope st) f cdv A outer s H E).nox (defBody st) t ∧ t { nx := fun _ H' => Q .non H', rt := Q } (start N vs) H) :
    ClG P w K mg base (k + 1) x sp := by
  obtain ⟨f, fd, F, hm, b⟩ := T.ex
  exact ⟨f, fd, ps, len, lawAt_of F S len fun cdv A outer s H vs Q E hg => hb f cdv A outer s H vs Q E hg, hm, F.kp, b⟩
end
section
variable {X : Cx} {j k : Nat} {x : Str} {sp : Sp} {e : Expr} {es : List Expr} {t : TA} {p pos : Pos}
theorem pe_cG (c : ClG X.prog X.w X.K X.mg X.base k x sp) (hgd : X.A.guards = some []) (hr : Room j X.A) (hk : k ≤ j) (hg : Gl X x) (ha : PA X (e :: es) t)
    (hdb : (x == ("__debug__" : Str)) = false := by decide) (he : starEach (e :: es) X.env = (false, eval e X.env) :: starEach es X.env := by rfl)
    (hpl : (backTo pos (starEach es X.env)).any (·.1) = false := by rfl) : PE X (.Call (.Name x p) (e :: es) [] pos) (tCall sp [] E0 t) := by
  obtain ⟨f, fd, ps, len, F, hm, kp, b⟩ := c.ex
  refine ⟨fun pins s σ H Q I h => ?_⟩
  refine wpAny_Call_Name_kw (ld_glob I hg hm ?_ hdb)
  refine PySem.W.callWith_K (h₀ := X.base) I.ok.mod.kin kp (thn (ha.run pos pins s σ H _ I h) fun us s1 ⟨vs, H1, I1, r, q⟩ => ⟨I1.kIn, ?_⟩) he hpl
  have q' : sp vs H1 Q E0 := by
    have q0 : sp (vs ++ []) H1 Q E0 := q
    rwa [List.append_nil] at q0
  have hl : us.length = ps.length := by rw [← r.length]; exact len _ _ _ _ q'
  have hb := b s1 us I1.kIn (by rw [List.append_nil]; exact hl)
  rw [List.append_nil] at hb
  refine wpAny_call (codeAny_mono (F X.A X.stack s1 H1 ⟨us, []⟩ us vs Q E0 hgd (hr.mono hk) I1.env0 hb r q') fun r s' hq => ?_)
  cases r with
  | error e => exact pass0 pins σ H1 s1 e s' I1 hq
  | ok fl =>
    cases fl with
    | ret u => exact I1.after hq
    | next => exact False.elim hq
    | brk => exact False.elim hq
    | cont => exact False.elim hq
end
/-! ### a walk over a list or a tuple -/
def iSeq (K : PySem.W.Frag) (tl : TE) : TI := fun σ H R => tl σ H fun x H1 => ∃ a, x = .ref a ∧ ((∃ xs, SqL K H1 a xs) ∧ R (Itl K a) H1 ∨ (∃ xs, SqT K H1 a xs) ∧ R (Itt K a) H1)
theorem pi_seq {X : Cx} {tg l : Expr} {tl : TE} (hl : PE X l tl) : PI X tg l (iSeq X.K tl) := by
  refine ⟨fun pins s σ H R I h => ?_⟩
  refine thn (hl.run pins s σ H _ I h) fun v s1 ⟨x, H1, I1, r1, q1⟩ => ?_
  obtain ⟨a, rfl, q1⟩ := q1
  cases r1
  have fp : ∀ b ∈ [s1.heap.objs.size], b = s1.heap.objs.size := fun b hb => by simpa using hb
  rcases q1 with ⟨⟨xs, hq⟩, q⟩ | ⟨⟨xs, hq⟩, q⟩
  · obtain ⟨its, rv, p, hz⟩ := I1.list hq
    refine wpAny_pyIter_list p.isList ?_
    refine ⟨_, _, _, _, H1, rfl, I1.kept (t' := s1.toks) fun b o e => Heap.get?_push_of_some _ e, turn_list a _, ⟨_, Heap.get?_push_size _ rfl, rfl, rfl⟩, fun b hb => ?_, q⟩
    cases fp b hb
    exact I1.fpOk (Nat.le_refl _) (I1.hok.fresh (Nat.le_refl _))
  · obtain ⟨its, rv, p, hz⟩ := I1.tuple hq
    refine wpAny_pyIter_tuple (show s1.heap.IsTuple a its.toArray from p) ?_
    refine ⟨_, _, _, _, H1, rfl, I1.kept (t' := s1.toks) fun b o e => Heap.get?_push_of_some _ e, turn_tuple a _, ⟨_, Heap.get?_push_size _ rfl, rfl, rfl⟩, fun b hb => ?_, q⟩
    cases fp b hb
    exact I1.fpOk (Nat.le_refl _) (I1.hok.fresh (Nat.le_refl _))
theorem ks_tupA {X : Cx} {K : PySem.W.Frag} (h : X.K = K := by rfl) : SlR X (rSlA K) := by subst h; exact sl_tupA
theorem ne_same (x : V) : (!decide (x = x)) = false := by simp
theorem tyx_tup {K : PySem.W.Frag} {H : Hp} {a : Addr} {xs : List V} (h : SqT K H a xs) : TyX K H (.ref a) (.type "tuple") := by
  rcases h with (h | ⟨o, h⟩) | ⟨o, its, n, e, c, _⟩
  · exact .base (.tup h)
  · exact .fTuple h
  · exact .kTuple e c
theorem kit_tup {K : PySem.W.Frag} : PySem.W.kitOne K (.type "tuple") (.type "tuple") = some true := by rfl
end Cm

/-! a for over a list or a tuple, as one -/
namespace Cm
open PySem L2 PySem.Spec PyProof.Rows
theorem for_seq {K : PySem.W.Frag} {tl : TE} {g : TG} {tb : TS} {D : Ends} {σ : L2.St} {H Hb : Hp} {a : Addr} {xs : List V} (ht : ∀ Q : VK, Q (.ref a) H → tl σ H Q) (ha : SqL K Hb a xs ∨ SqT K Hb a xs)
    (Pv : Nat → L2.St → Hp → Prop) (h0 : Pv 0 σ H) (hG : ∀ i σ H', Pv i σ H' → Same Hb H')
    (hs : ∀ i x σ H1, i < xs.length → Pv i σ H1 → xs[i]? = some x → g x σ H1 fun σ2 H2 => tb { D with nx := Pv (i + 1), ct := Pv (i + 1), bk := D.nx } σ2 H2) (hd : ∀ σ H1, Pv xs.length σ H1 → D.nx σ H1) :
    tFor (iSeq K tl) g tb D σ H := by
  refine ht _ ⟨a, rfl, ?_⟩
  rcases ha with ha | ha
  · refine .inl ⟨⟨_, (hG _ _ _ h0).seq ha⟩, for_it (walk_list (xs := xs)) Pv h0 (fun i σ H' hi z => (hG i σ H' z).seq ha) (fun i x σ H1 H2 hi z y => ?_) hd⟩
    obtain ⟨rfl, e⟩ := y
    exact hs i x σ _ hi z e
  · refine .inr ⟨⟨_, sqt_same (hG _ _ _ h0) ha⟩, for_it (walk_tup (xs := xs)) Pv h0 (fun i σ H' hi z => sqt_same (hG i σ H' z) ha) (fun i x σ H1 H2 hi z y => ?_) hd⟩
    obtain ⟨rfl, e⟩ := y
    exact hs i x σ _ hi z e
end Cm

/-! trees of forms: a head and its parts; how they lie in tuples -/
namespace Cm
open PySem L2 PySem.Spec PyProof.Rows
inductive Hd where
  | num (i : Int)
  | name (x : Str)
  | lit (w : Str)
  | one (w x : Str)
  | fn (xs : List Str)
  | bind (w : Str) (xs : List Str)
  | doo
  | call
  | op (o : Str)
  | plain (w : Str)
inductive Tr where
  | mk (h : Hd) (ps : List Tr)
def encs (xs : List Str) : PyData := .tuple (xs.map PyData.str)
def rowD (p : Str × PyData) : PyData := .tuple [.str p.1, p.2]
def encH : Hd → List PyData → PyData
  | .num i, _ => .tuple [.str "number", .int i]
  | .name x, _ => .tuple [.str "name", .str x]
  | .lit w, _ => .tuple [.str w]
  | .one w x, ds => .tuple (.str w :: .str x :: ds)
  | .fn xs, ds => .tuple (.str "fn" :: encs xs :: ds)
  | .bind w xs, ds => .tuple (.str w :: .tuple ((xs.zip ds).map rowD) :: ds.drop xs.length)
  | .doo, ds => .tuple [.str "do", .tuple ds]
  | .call, ds => .tuple (.str "call" :: (ds.take 1 ++ [.tuple (ds.drop 1)]))
  | .op o, ds => .tuple [.str "op", .str o, .tuple ds]
  | .plain w, ds => .tuple (.str w :: ds)
mutual
def Tr.enc : Tr → PyData
  | .mk h ps => encH h (Tr.encL ps)
def Tr.encL : List Tr → List PyData
  | [] => []
  | t :: ts => t.enc :: Tr.encL ts
end
mutual
def Tr.dep : Tr → Nat
  | .mk _ ps => Tr.deps ps + 1
def Tr.deps : List Tr → Nat
  | [] => 0
  | t :: ts => max t.dep (Tr.deps ts)
end
def litW : List Str := ["true", "false", "none", "ask"]
def oneW : List Str := ["set", "keep", "once", "take"]
def bindW : List Str := ["let", "rec"]
def plainW : List Str := ["if", "mark", "wind", "show"]
abbrev sok (x : Str) : Prop := PyData.strOk x = true
def hok : Hd → Nat → Prop
  | .num _, n => n = 0
  | .name x, n => n = 0 ∧ sok x
  | .lit w, n => n = 0 ∧ w ∈ litW
  | .one w x, n => n = 1 ∧ w ∈ oneW ∧ sok x
  | .fn xs, n => n = 1 ∧ xs.length ≤ 100 ∧ ∀ x ∈ xs, sok x
  | .bind w xs, n => n = xs.length + 1 ∧ w ∈ bindW ∧ ∀ x ∈ xs, sok x
  | .doo, _ => True
  | .call, n => 1 ≤ n
  | .op o, _ => sok o
  | .plain w, _ => w ∈ plainW
mutual
def Tr.ok : Tr → Prop
  | .mk h ps => hok h ps.length ∧ ps.length ≤ 11 ∧ Tr.oks ps
def Tr.oks : List Tr → Prop
  | [] => True
  | t :: ts => t.ok ∧ Tr.oks ts
end
theorem encL_map : ∀ ps : List Tr, Tr.encL ps = ps.map Tr.enc
  | [] => rfl
  | t :: ts => by
    show t.enc :: Tr.encL ts = _
    rw [encL_map ts]
    rfl
theorem encL_len (ps : List Tr) : (Tr.encL ps).length = ps.length := by rw [encL_map, List.length_map]
theorem deps_le {n : Nat} : ∀ {ps : List Tr}, Tr.deps ps ≤ n ↔ ∀ t ∈ ps, t.dep ≤ n
  | [] => by simp [Tr.deps]
  | t :: ts => by
    have := deps_le (n := n) (ps := ts)
    show max t.dep (Tr.deps ts) ≤ n ↔ _
    rw [Nat.max_le, this]
    simp
theorem oks_iff : ∀ {ps : List Tr}, Tr.oks ps ↔ ∀ t ∈ ps, t.ok
  | [] => by simp [Tr.oks]
  | t :: ts => by
    show t.ok ∧ Tr.oks ts ↔ _
    rw [oks_iff]
    simp
theorem dep_mk {h : Hd} {ps : List Tr} {n : Nat} : (Tr.mk h ps).dep ≤ n + 1 ↔ ∀ t ∈ ps, t.dep ≤ n := by
  show Tr.deps ps + 1 ≤ n + 1 ↔ _
  rw [← deps_le]
  omega
/-- trees by their depth -/
theorem tr_ind {P : Tr → Prop} (h : ∀ hd ps, (∀ t ∈ ps, P t) → P (.mk hd ps)) (t : Tr) : P t := by
  have key : ∀ n, ∀ t : Tr, t.dep ≤ n → P t := by
    intro n
    induction n with
    | zero =>
      intro t ht
      cases t with
      | mk hd ps => exact absurd ht (by show ¬ (Tr.deps ps + 1 ≤ 0); omega)
    | succ n ih =>
      intro t ht
      cases t with
      | mk hd ps => exact h hd ps fun t m => ih t (dep_mk.mp ht t m)
  exact key t.dep t (Nat.le_refl _)
theorem flat_strs (xs : List Str) : flatDs (xs.map PyData.str) = true := flatDs_of _ fun d hd => by
  obtain ⟨x, _, rfl⟩ := List.mem_map.mp hd
  rfl
theorem flat_encH {h : Hd} {ds : List PyData} (f : flatDs ds = true) : flatD (encH h ds) = true := by
  have fd := flatDs_all f
  cases h with
  | num i => rfl
  | name x => rfl
  | lit w => rfl
  | one w x => show flatDs (_ :: _ :: ds) = true; simpa [flatDs, flatD] using f
  | fn xs => show flatDs (_ :: encs xs :: ds) = true; simp [flatDs, flatD, encs, flat_strs, f]
  | bind w xs =>
    show flatDs (_ :: _ :: ds.drop xs.length) = true
    have h1 : flatDs (ds.drop xs.length) = true := flatDs_of _ fun d hd => fd d (List.mem_of_mem_drop hd)
    have h2 : flatDs ((xs.zip ds).map rowD) = true := flatDs_of _ fun d hd => by
      obtain ⟨p, hp, rfl⟩ := List.mem_map.mp hd
      have := fd p.2 (List.of_mem_zip (show (p.1, p.2) ∈ xs.zip ds from hp)).2
      simp [rowD, flatD, flatDs, this]
    simp [flatDs, flatD, h1, h2]
  | doo => show flatDs [_, .tuple ds] = true; simp [flatDs, flatD, f]
  | call =>
    show flatDs (_ :: (ds.take 1 ++ [.tuple (ds.drop 1)])) = true
    refine flatDs_of _ fun d hd => ?_
    rcases List.mem_cons.mp hd with rfl | hd
    · rfl
    rcases List.mem_append.mp hd with hd | hd
    · exact fd d (List.mem_of_mem_take hd)
    · cases List.mem_singleton.mp hd
      show flatDs (ds.drop 1) = true
      exact flatDs_of _ fun d hd => fd d (List.mem_of_mem_drop hd)
  | op o => show flatDs [_, _, .tuple ds] = true; simp [flatDs, flatD, f]
  | plain w => show flatDs (_ :: ds) = true; simpa [flatDs, flatD] using f
theorem flat_enc (t : Tr) : flatD t.enc = true := by
  refine tr_ind (P := fun t => flatD t.enc = true) (fun hd ps ih => ?_) t
  show flatD (encH hd (Tr.encL ps)) = true
  refine flat_encH (flatDs_of _ fun d hd => ?_)
  rw [encL_map] at hd
  obtain ⟨t, m, rfl⟩ := List.mem_map.mp hd
  exact ih t m
theorem flat_encL (ps : List Tr) : flatDs (Tr.encL ps) = true := flatDs_of _ fun d hd => by
  rw [encL_map] at hd
  obtain ⟨t, m, rfl⟩ := List.mem_map.mp hd
  exact flat_enc t
/-! ### that trees can be compared -/
theorem layAll_of : ∀ {ds : List PyData}, (∀ d ∈ ds, PyData.canLay0 d = true) → PyData.canLayAll0 ds = true
  | [], _ => rfl
  | d :: ds, h => by
    show (PyData.canLay0 d && PyData.canLayAll0 ds) = true
    rw [h d List.mem_cons_self, layAll_of fun x hx => h x (List.mem_cons_of_mem _ hx)]
    rfl
theorem depAll_le {n : Nat} : ∀ {ds : List PyData}, (∀ d ∈ ds, d.depth ≤ n) → PyData.depthAll ds ≤ n
  | [], _ => by simp [PyData.depthAll]
  | d :: ds, h => by
    have h1 := h d List.mem_cons_self
    have h2 := depAll_le (ds := ds) fun x hx => h x (List.mem_cons_of_mem _ hx)
    simp only [PyData.depthAll]
    omega
theorem lay_tup {ds : List PyData} (h : ∀ d ∈ ds, PyData.canLay0 d = true) : PyData.canLay0 (.tuple ds) = true := layAll_of h
theorem dep_tup {ds : List PyData} {n : Nat} (h : ∀ d ∈ ds, d.depth ≤ n) : PyData.depth (.tuple ds) ≤ n + 1 := by
  have := depAll_le h
  simp only [PyData.depth]
  omega
theorem dep0_str (x : Str) (n : Nat) : PyData.depth (.str x) ≤ n := by simp [PyData.depth]
theorem dep0_int (x : Int) (n : Nat) : PyData.depth (.int x) ≤ n := by simp [PyData.depth]
/-- a text that may stand in data, and how deep data is -/
structure Lay (n : Nat) (d : PyData) : Prop where
  lay : PyData.canLay0 d = true
  dep : d.depth ≤ n
theorem Lay.mono {n m : Nat} {d : PyData} (h : Lay n d) (k : n ≤ m) : Lay m d := ⟨h.lay, Nat.le_trans h.dep k⟩
theorem Lay.str {x : Str} (h : sok x) (n : Nat) : Lay n (.str x) := ⟨h, dep0_str x n⟩
theorem Lay.int (i : Int) (n : Nat) : Lay n (.int i) := ⟨rfl, dep0_int i n⟩
theorem Lay.tup {n : Nat} {ds : List PyData} (h : ∀ d ∈ ds, Lay n d) : Lay (n + 1) (.tuple ds) := ⟨lay_tup fun d m => (h d m).lay, dep_tup fun d m => (h d m).dep⟩
theorem Lay.lst {n : Nat} {ds : List PyData} (h : ∀ d ∈ ds, Lay n d) : Lay (n + 1) (.list ds) := by
  have h1 : PyData.canLay0 (.list ds) = true := layAll_of fun d m => (h d m).lay
  have h2 := depAll_le fun d m => (h d m).dep
  refine ⟨h1, ?_⟩
  simp only [PyData.depth]
  omega
theorem Lay.sh {n : Nat} {d : PyData} (h : Lay n d) (k : n ≤ 64) : SeqAt.shaped d = true := by
  unfold SeqAt.shaped
  rw [h.lay, decide_eq_true (Nat.le_trans h.dep k)]
  rfl
theorem words_sok : ∀ w ∈ litW ++ oneW ++ bindW ++ plainW, sok w := by
  intro w hw
  unfold litW oneW bindW plainW at hw
  simp only [List.cons_append, List.nil_append, List.mem_cons, List.not_mem_nil, or_false] at hw
  rcases hw with rfl | rfl | rfl | rfl | rfl | rfl | rfl | rfl | rfl | rfl | rfl | rfl | rfl | rfl <;> decide +kernel
theorem mem4 {α : Type} {P : α → Prop} {a b c d : α} (ha : P a) (hb : P b) (hc : P c) (hd : P d) : ∀ x ∈ [a, b, c, d], P x := by
  intro x hx
  simp only [List.mem_cons, List.not_mem_nil, or_false] at hx
  rcases hx with rfl | rfl | rfl | rfl <;> assumption
theorem lay_strs {xs : List Str} (h : ∀ x ∈ xs, sok x) (n : Nat) : Lay (n + 1) (encs xs) := Lay.tup fun d hd => by
  obtain ⟨x, m, rfl⟩ := List.mem_map.mp hd
  exact .str (h x m) n
theorem lay_encH {h : Hd} {ds : List PyData} {n : Nat} (o : hok h ds.length) (f : ∀ d ∈ ds, Lay n d) : Lay (n + 3) (encH h ds) := by
  have up : ∀ d ∈ ds, Lay (n + 2) d := fun d m => (f d m).mono (by omega)
  have hw : ∀ w, (w ∈ litW ∨ w ∈ oneW ∨ w ∈ bindW ∨ w ∈ plainW) → Lay (n + 2) (.str w) := fun w m => .str (words_sok w (by
    simp only [List.mem_append]
    rcases m with m | m | m | m
    · exact .inl (.inl (.inl m))
    · exact .inl (.inl (.inr m))
    · exact .inl (.inr m)
    · exact .inr m)) _
  have c : ∀ {d : PyData} {ds : List PyData}, Lay (n + 2) d → (∀ e ∈ ds, Lay (n + 2) e) → ∀ e ∈ d :: ds, Lay (n + 2) e := fun a b e m => by
    rcases List.mem_cons.mp m with rfl | m
    · exact a
    · exact b e m
  have nil : ∀ e ∈ ([] : List PyData), Lay (n + 2) e := fun e m => by cases m
  have S : ∀ w : Str, sok w → Lay (n + 2) (.str w) := fun w h => .str h _
  cases h with
  | num i => exact .tup (c (S "number" (by decide +kernel)) (c (.int i _) nil))
  | name x => exact .tup (c (S "name" (by decide +kernel)) (c (S x o.2) nil))
  | lit w => exact .tup (c (hw w (.inl o.2)) nil)
  | one w x => exact .tup (c (hw w (.inr (.inl o.2.1))) (c (S x o.2.2) up))
  | fn xs => exact .tup (c (S "fn" (by decide +kernel)) (c (lay_strs o.2.2 (n + 1)) up))
  | bind w xs =>
    refine .tup (c (hw w (.inr (.inr (.inl o.2.1)))) (c (Lay.tup fun d hd => ?_) fun d hd => up d (List.mem_of_mem_drop hd)))
    obtain ⟨p, hp, rfl⟩ := List.mem_map.mp hd
    have hz := List.of_mem_zip (show (p.1, p.2) ∈ xs.zip ds from hp)
    refine Lay.tup fun d hd => ?_
    simp only [List.mem_cons, List.not_mem_nil, or_false] at hd
    rcases hd with rfl | rfl
    · exact .str (o.2.2 _ hz.1) _
    · exact f _ hz.2
  | doo => exact .tup (c (S "do" (by decide +kernel)) (c (Lay.tup (fun d m => (f d m).mono (by omega))) nil))
  | call =>
    refine .tup (c (S "call" (by decide +kernel)) fun d hd => ?_)
    rcases List.mem_append.mp hd with hd | hd
    · exact up d (List.mem_of_mem_take hd)
    · cases List.mem_singleton.mp hd
      exact Lay.tup fun d m => (f d (List.mem_of_mem_drop m)).mono (by omega)
  | op o' => exact .tup (c (S "op" (by decide +kernel)) (c (S o' o) (c (Lay.tup (fun d m => (f d m).mono (by omega))) nil)))
  | plain w => exact .tup (c (hw w (.inr (.inr (.inr o)))) up)
theorem lay_enc : ∀ (n : Nat) (t : Tr), t.ok → t.dep ≤ n → Lay (3 * n) t.enc := by
  intro n
  induction n with
  | zero =>
    intro t _ h
    cases t with
    | mk hd ps => exact absurd h (by show ¬ (Tr.deps ps + 1 ≤ 0); omega)
  | succ n ih =>
    intro t o h
    cases t with
    | mk hd ps =>
      have o' : hok hd ps.length ∧ ps.length ≤ 11 ∧ Tr.oks ps := o
      have : Lay (3 * n + 3) (encH hd (Tr.encL ps)) := lay_encH (by rw [encL_len]; exact o'.1) fun d hd => by
        rw [encL_map] at hd
        obtain ⟨t, m, rfl⟩ := List.mem_map.mp hd
        exact ih t (oks_iff.mp o'.2.2 t m) (dep_mk.mp h t m)
      exact this
end Cm

/-! x in (written words); the items of a tree's tuple -/
namespace Cm
open PySem L2 PySem.Spec PyProof.Rows
/-- written texts -/
inductive StrEs : List Expr → List Str → Prop where
  | nil : StrEs [] []
  | cons {x : Str} {k : Nat} {p : Pos} {es : List Expr} {xs : List Str} (h : StrEs es xs) : StrEs (.Constant (.str x) k p :: es) (x :: xs)
def tVals (vs : List V) : TA := fun _ H Q => Q vs H
section
variable {X : Cx} {e : Expr} {te : TE} {es : List Expr} {ws : List Str} {pos p2 : Pos} {n : Nat}
theorem pa_strs (h : StrEs es ws) : PA X es (tVals (ws.map V.str)) := by
  induction h with
  | nil => exact ⟨fun pos pins s σ H Q I h => pa_nil.run pos pins s σ H Q I h⟩
  | @cons x k p es xs h ih =>
    refine ⟨fun pos pins s σ H Q I q => (pa_cons (te := tC (.str x)) pe_str ih (by rfl)).run pos pins s σ H Q I ?_⟩
    exact q
/-- x in ('a', 'b', ..) -/
def tInW (te : TE) (ws : List Str) : TT := fun σ H Q => te σ H fun x H1 => flatV x = true ∧ ∀ H2, Same H1 H2 → Q (inV x (ws.map V.str)) H2
theorem flat_strV (ws : List Str) : (ws.map V.str).all flatV = true := by
  rw [List.all_eq_true]
  intro x hx
  obtain ⟨w, _, rfl⟩ := List.mem_map.mp hx
  rfl
theorem pt_inW (ha : PE X e te) (he : StrEs es ws) (hl : ws.length ≤ sizeLine) (hm : behindInMarks .In (.Tuple es n p2) = false) : PT X (.Compare e [.In] [.Tuple es n p2] pos) (tInW te ws) := by
  refine ⟨fun pins s σ H Q I h => ?_⟩
  refine wpAny_isTrue_Compare1 (thn (ha.run pins s σ H _ I h) fun v s1 ⟨x, H1, I1, r1, fx, q1⟩ => thn ((pe_tup (pa_strs he)).run pins s1 σ H1 (fun y H2 => y ≠ .non ∧ ∃ p, y = .ref p ∧ H2 p = some (.tup (ws.map V.str)) ∧ Same H1 H2) I1 ?_) fun u s2 ⟨y, H2, I2, r2, _, p, ey, hp, s12⟩ =>
    thn (op_in_seq pins s2 σ H2 x y v u (fun z H3 => ∃ k, z = .bl k ∧ Q k H3) I2 r1 r2 ⟨p, _, ey, .inr (.inl (.inl hp)), fx, flat_strV ws, _, rfl, q1 H2 s12⟩) fun c s3 ⟨z, H3, I3, r3, k, e, q3⟩ => ?_) hm
  · refine ⟨by rw [List.length_map]; exact hl, fun p hp => ⟨(fun z => nomatch z), p, rfl, upd_same, same_new hp⟩⟩
  · subst e
    cases r3
    exact wpAny_truthy_bool ⟨H3, I3, q3⟩
end
/-- x in ('a', ..) as a value -/
def tInWV (te : TE) (ws : List Str) : TE := fun σ H Q => te σ H fun x H1 => flatV x = true ∧ ∀ H2, Same H1 H2 → Q (.bl (inV x (ws.map V.str))) H2
section
variable {X : Cx} {e : Expr} {te : TE} {es : List Expr} {ws : List Str} {pos p2 : Pos} {n : Nat}
theorem pe_inW (ha : PE X e te) (he : StrEs es ws) (hl : ws.length ≤ sizeLine) (hm : behindInMarks .In (.Tuple es n p2) = false) : PE X (.Compare e [.In] [.Tuple es n p2] pos) (tInWV te ws) := by
  refine ⟨fun pins s σ H Q I h => ?_⟩
  refine wpAny_Compare1 (thn (ha.run pins s σ H _ I h) fun v s1 ⟨x, H1, I1, r1, fx, q1⟩ => thn ((pe_tup (pa_strs he)).run pins s1 σ H1 (fun y H2 => ∃ p, y = .ref p ∧ H2 p = some (.tup (ws.map V.str)) ∧ Same H1 H2) I1 ?_) fun u s2 ⟨y, H2, I2, r2, p, ey, hp, s12⟩ =>
    op_in_seq pins s2 σ H2 x y v u Q I2 r1 r2 ⟨p, _, ey, .inr (.inl (.inl hp)), fx, flat_strV ws, q1 H2 s12⟩) hm
  exact ⟨by rw [List.length_map]; exact hl, fun p hp => ⟨p, rfl, upd_same, same_new hp⟩⟩
end
/-! ### the items of a tree's tuple -/
def wd : Hd → Str
  | .num _ => "number"
  | .name _ => "name"
  | .lit w => w
  | .one w _ => w
  | .fn _ => "fn"
  | .bind w _ => w
  | .doo => "do"
  | .call => "call"
  | .op _ => "op"
  | .plain w => w
def Items (K : PySem.W.Frag) (H : Hp) (ds : List PyData) : Hd → List V → Prop
  | .num i, its => its = [.str "number", .int i]
  | .name x, its => its = [.str "name", .str x]
  | .lit w, its => its = [.str w]
  | .one w x, its => ∃ vs, its = .str w :: .str x :: vs ∧ DpAll K H vs ds
  | .fn xs, its => ∃ q vs, its = .str "fn" :: .ref q :: vs ∧ SqT K H q (xs.map V.str) ∧ DpAll K H vs ds
  | .bind w xs, its => ∃ q rows vs, its = .str w :: .ref q :: vs ∧ SqT K H q rows ∧ DpAll K H rows ((xs.zip ds).map rowD) ∧ DpAll K H vs (ds.drop xs.length)
  | .doo, its => ∃ q vs, its = [.str "do", .ref q] ∧ SqT K H q vs ∧ DpAll K H vs ds
  | .call, its => ∃ q us vs, its = .str "call" :: (us ++ [.ref q]) ∧ DpAll K H us (ds.take 1) ∧ SqT K H q vs ∧ DpAll K H vs (ds.drop 1)
  | .op o, its => ∃ q vs, its = [.str "op", .str o, .ref q] ∧ SqT K H q vs ∧ DpAll K H vs ds
  | .plain w, its => ∃ vs, its = .str w :: vs ∧ DpAll K H vs ds
theorem dp_str {K : PySem.W.Frag} {H : Hp} {v : V} {x : Str} (h : Dp K H v (.str x)) : v = .str x := by cases h; rfl
theorem dp_int {K : PySem.W.Frag} {H : Hp} {v : V} {x : Int} (h : Dp K H v (.int x)) : v = .int x := by cases h; rfl
theorem dp_tup {K : PySem.W.Frag} {H : Hp} {v : V} {ds : List PyData} (h : Dp K H v (.tuple ds)) : ∃ a its, v = .ref a ∧ SqT K H a its ∧ DpAll K H its ds := by
  cases h with
  | @tup a its ds hs ha => exact ⟨a, its, rfl, hs, ha⟩
theorem dpAll_strs_inv {K : PySem.W.Frag} {H : Hp} : ∀ {xs : List Str} {vs : List V}, DpAll K H vs (xs.map PyData.str) → vs = xs.map V.str
  | [], _, h => by cases h; rfl
  | x :: xs, _, h => by
    cases h with
    | cons h1 h2 => rw [dp_str h1, dpAll_strs_inv h2]; rfl
theorem dpAll_strs {K : PySem.W.Frag} {H : Hp} : ∀ xs : List Str, DpAll K H (xs.map V.str) (xs.map PyData.str)
  | [] => .nil
  | x :: xs => .cons (.str x) (dpAll_strs xs)
theorem dpAll_split {K : PySem.W.Frag} {H : Hp} : ∀ {ds es : List PyData} {vs : List V}, DpAll K H vs (ds ++ es) → ∃ us ws, vs = us ++ ws ∧ DpAll K H us ds ∧ DpAll K H ws es
  | [], es, vs, h => ⟨[], vs, rfl, .nil, h⟩
  | d :: ds, es, vs, h => by
    cases h with
    | cons h1 h2 =>
      obtain ⟨us, ws, rfl, a, b⟩ := dpAll_split h2
      exact ⟨_ :: us, ws, rfl, .cons h1 a, b⟩
theorem view {K : PySem.W.Frag} {H : Hp} {v : V} {h : Hd} {ds : List PyData} (x : Dp K H v (encH h ds)) : ∃ a its, v = .ref a ∧ SqT K H a its ∧ Items K H ds h its := by
  cases h with
  | num i =>
    obtain ⟨a, its, rfl, hs, ha⟩ := dp_tup x
    cases ha with
    | cons h1 h2 => cases h2 with
      | cons h3 h4 =>
        cases h4
        exact ⟨a, _, rfl, hs, by rw [dp_str h1, dp_int h3]; rfl⟩
  | name i =>
    obtain ⟨a, its, rfl, hs, ha⟩ := dp_tup x
    cases ha with
    | cons h1 h2 => cases h2 with
      | cons h3 h4 =>
        cases h4
        exact ⟨a, _, rfl, hs, by rw [dp_str h1, dp_str h3]; rfl⟩
  | lit i =>
    obtain ⟨a, its, rfl, hs, ha⟩ := dp_tup x
    cases ha with
    | cons h1 h2 =>
      cases h2
      exact ⟨a, _, rfl, hs, by rw [dp_str h1]; rfl⟩
  | one w i =>
    obtain ⟨a, its, rfl, hs, ha⟩ := dp_tup x
    cases ha with
    | cons h1 h2 => cases h2 with
      | cons h3 h4 => exact ⟨a, _, rfl, hs, _, by rw [dp_str h1, dp_str h3], h4⟩
  | fn xs =>
    obtain ⟨a, its, rfl, hs, ha⟩ := dp_tup x
    cases ha with
    | cons h1 h2 => cases h2 with
      | cons h3 h4 =>
        obtain ⟨q, vs, rfl, hq, hv⟩ := dp_tup h3
        rw [dpAll_strs_inv hv] at hq
        exact ⟨a, _, rfl, hs, q, _, by rw [dp_str h1], hq, h4⟩
  | bind w xs =>
    obtain ⟨a, its, rfl, hs, ha⟩ := dp_tup x
    cases ha with
    | cons h1 h2 => cases h2 with
      | cons h3 h4 =>
        obtain ⟨q, vs, rfl, hq, hv⟩ := dp_tup h3
        exact ⟨a, _, rfl, hs, q, vs, _, by rw [dp_str h1], hq, hv, h4⟩
  | doo =>
    obtain ⟨a, its, rfl, hs, ha⟩ := dp_tup x
    cases ha with
    | cons h1 h2 => cases h2 with
      | cons h3 h4 =>
        cases h4
        obtain ⟨q, vs, rfl, hq, hv⟩ := dp_tup h3
        exact ⟨a, _, rfl, hs, q, vs, by rw [dp_str h1], hq, hv⟩
  | call =>
    obtain ⟨a, its, rfl, hs, ha⟩ := dp_tup x
    cases ha with
    | cons h1 h2 =>
      obtain ⟨us, ws, rfl, h3, h4⟩ := dpAll_split h2
      cases h4 with
      | cons h5 h6 =>
        cases h6
        obtain ⟨q, vs, rfl, hq, hv⟩ := dp_tup h5
        exact ⟨a, _, rfl, hs, q, us, vs, by rw [dp_str h1], h3, hq, hv⟩
  | op o =>
    obtain ⟨a, its, rfl, hs, ha⟩ := dp_tup x
    cases ha with
    | cons h1 h2 => cases h2 with
      | cons h3 h4 => cases h4 with
        | cons h5 h6 =>
          cases h6
          obtain ⟨q, vs, rfl, hq, hv⟩ := dp_tup h5
          exact ⟨a, _, rfl, hs, q, vs, by rw [dp_str h1, dp_str h3], hq, hv⟩
  | plain w =>
    obtain ⟨a, its, rfl, hs, ha⟩ := dp_tup x
    cases ha with
    | cons h1 h2 => exact ⟨a, _, rfl, hs, _, by rw [dp_str h1], h2⟩
theorem unview {K : PySem.W.Frag} {H : Hp} {a : Addr} {its : List V} {h : Hd} {ds : List PyData} (hs : SqT K H a its) (x : Items K H ds h its) : Dp K H (.ref a) (encH h ds) := by
  cases h with
  | num i => obtain rfl := (show its = _ from x); exact .tup hs (.cons (.str _) (.cons (.int _) .nil))
  | name i => obtain rfl := (show its = _ from x); exact .tup hs (.cons (.str _) (.cons (.str _) .nil))
  | lit i => obtain rfl := (show its = _ from x); exact .tup hs (.cons (.str _) .nil)
  | one w i => obtain ⟨vs, rfl, hv⟩ := x; exact .tup hs (.cons (.str _) (.cons (.str _) hv))
  | fn xs => obtain ⟨q, vs, rfl, hq, hv⟩ := x; exact .tup hs (.cons (.str _) (.cons (.tup hq (dpAll_strs xs)) hv))
  | bind w xs => obtain ⟨q, rows, vs, rfl, hq, hr, hv⟩ := x; exact .tup hs (.cons (.str _) (.cons (.tup hq hr) hv))
  | doo => obtain ⟨q, vs, rfl, hq, hv⟩ := x; exact .tup hs (.cons (.str _) (.cons (.tup hq hv) .nil))
  | call => obtain ⟨q, us, vs, rfl, hu, hq, hv⟩ := x; exact .tup hs (.cons (.str _) (DpAll.app hu (.cons (.tup hq hv) .nil)))
  | op o => obtain ⟨q, vs, rfl, hq, hv⟩ := x; exact .tup hs (.cons (.str _) (.cons (.str _) (.cons (.tup hq hv) .nil)))
  | plain w => obtain ⟨vs, rfl, hv⟩ := x; exact .tup hs (.cons (.str _) hv)
theorem Items.head {K : PySem.W.Frag} {H : Hp} {h : Hd} {ds : List PyData} {its : List V} (x : Items K H ds h its) : atI its 0 = some (.str (wd h)) := by
  refine atI_nat (j := 0) ?_
  cases h with
  | num i => obtain rfl := (show its = _ from x); rfl
  | name i => obtain rfl := (show its = _ from x); rfl
  | lit i => obtain rfl := (show its = _ from x); rfl
  | one w i => obtain ⟨vs, rfl, _⟩ := x; rfl
  | fn xs => obtain ⟨q, vs, rfl, _⟩ := x; rfl
  | bind w xs => obtain ⟨q, rows, vs, rfl, _⟩ := x; rfl
  | doo => obtain ⟨q, vs, rfl, _⟩ := x; rfl
  | call => obtain ⟨q, us, vs, rfl, _⟩ := x; rfl
  | op o => obtain ⟨q, vs, rfl, _⟩ := x; rfl
  | plain w => obtain ⟨vs, rfl, _⟩ := x; rfl
theorem Items.same {K : PySem.W.Frag} {H H' : Hp} {h : Hd} {ds : List PyData} {its : List V} (x : Items K H ds h its) (s : Same H H') : Items K H' ds h its := by
  cases h with
  | num i => exact x
  | name i => exact x
  | lit i => exact x
  | one w i => obtain ⟨vs, e, hv⟩ := x; exact ⟨vs, e, dps_same s _ _ hv⟩
  | fn xs => obtain ⟨q, vs, e, hq, hv⟩ := x; exact ⟨q, vs, e, sqt_same s hq, dps_same s _ _ hv⟩
  | bind w xs => obtain ⟨q, rows, vs, e, hq, hr, hv⟩ := x; exact ⟨q, rows, vs, e, sqt_same s hq, dps_same s _ _ hr, dps_same s _ _ hv⟩
  | doo => obtain ⟨q, vs, e, hq, hv⟩ := x; exact ⟨q, vs, e, sqt_same s hq, dps_same s _ _ hv⟩
  | call => obtain ⟨q, us, vs, e, hu, hq, hv⟩ := x; exact ⟨q, us, vs, e, dps_same s _ _ hu, sqt_same s hq, dps_same s _ _ hv⟩
  | op o => obtain ⟨q, vs, e, hq, hv⟩ := x; exact ⟨q, vs, e, sqt_same s hq, dps_same s _ _ hv⟩
  | plain w => obtain ⟨vs, e, hv⟩ := x; exact ⟨vs, e, dps_same s _ _ hv⟩
/-! ### what the word of a head is -/
def kd : Hd → Nat
  | .num _ => 0
  | .name _ => 1
  | .lit _ => 2
  | .one _ _ => 3
  | .fn _ => 4
  | .bind _ _ => 5
  | .doo => 6
  | .call => 7
  | .op _ => 8
  | .plain _ => 9
def wordsOf : Nat → List Str
  | 0 => ["number"]
  | 1 => ["name"]
  | 2 => litW
  | 3 => oneW
  | 4 => ["fn"]
  | 5 => bindW
  | 6 => ["do"]
  | 7 => ["call"]
  | 8 => ["op"]
  | _ => plainW
theorem wd_mem {h : Hd} {n : Nat} (o : hok h n) : kd h < 10 ∧ wd h ∈ wordsOf (kd h) := by
  cases h with
  | num i => exact ⟨Nat.le_of_ble_eq_true rfl, List.mem_singleton.mpr rfl⟩
  | name i => exact ⟨Nat.le_of_ble_eq_true rfl, List.mem_singleton.mpr rfl⟩
  | lit w => exact ⟨Nat.le_of_ble_eq_true rfl, o.2⟩
  | one w x => exact ⟨Nat.le_of_ble_eq_true rfl, o.2.1⟩
  | fn xs => exact ⟨Nat.le_of_ble_eq_true rfl, List.mem_singleton.mpr rfl⟩
  | bind w xs => exact ⟨Nat.le_of_ble_eq_true rfl, o.2.1⟩
  | doo => exact ⟨Nat.le_of_ble_eq_true rfl, List.mem_singleton.mpr rfl⟩
  | call => exact ⟨Nat.le_of_ble_eq_true rfl, List.mem_singleton.mpr rfl⟩
  | op i => exact ⟨Nat.le_of_ble_eq_true rfl, List.mem_singleton.mpr rfl⟩
  | plain w => exact ⟨Nat.le_of_ble_eq_true rfl, o⟩
/-- what is asked of the word alone -/
theorem by_kind (p : Str → Bool) (k : Nat → Bool) (hc : ∀ c < 10, ∀ w ∈ wordsOf c, p w = k c) {h : Hd} {n : Nat} (o : hok h n) : p (wd h) = k (kd h) :=
  hc _ (wd_mem o).1 _ (wd_mem o).2
def kF (h : Hd) : Bool := kd h == 3 || kd h == 4
def kB (h : Hd) : Bool := kd h == 5
def kP (h : Hd) : Bool := kd h == 9
def kL (h : Hd) : Bool := kd h < 3
def isDo (h : Hd) : Bool := kd h == 6
def isCall (h : Hd) : Bool := kd h == 7
def isOp (h : Hd) : Bool := kd h == 8
theorem in_words {ws : List Str} {x : Str} : inV (.str x) (ws.map V.str) = decide (x ∈ ws) := by
  induction ws with
  | nil => rfl
  | cons w ws ih =>
    show (eqV (V.str w) (V.str x) || inV (.str x) (ws.map V.str)) = _
    rw [ih]
    have e : eqV (V.str w) (V.str x) = decide (x = w) := by
      show (w == x) = _
      by_cases q : x = w
      · rw [q]; simp
      · have : ¬ w = x := fun z => q z.symm
        simp [q, this]
    rw [e]
    by_cases q : x = w <;> simp [q]
section
variable {h : Hd} {n : Nat}
theorem in_F (o : hok h n) : inV (.str (wd h)) ((["fn", "set", "keep", "once", "take"] : List Str).map V.str) = kF h :=
  by_kind (fun w => inV (.str w) ((["fn", "set", "keep", "once", "take"] : List Str).map V.str)) (fun k => k == 3 || k == 4) (by decide +kernel) o
theorem in_B (o : hok h n) : inV (.str (wd h)) ((["let", "rec"] : List Str).map V.str) = kB h :=
  by_kind (fun w => inV (.str w) ((["let", "rec"] : List Str).map V.str)) (fun k => k == 5) (by decide +kernel) o
theorem in_P (o : hok h n) : inV (.str (wd h)) ((["if", "mark", "wind", "show"] : List Str).map V.str) = kP h :=
  by_kind (fun w => inV (.str w) ((["if", "mark", "wind", "show"] : List Str).map V.str)) (fun k => k == 9) (by decide +kernel) o
theorem in_L (o : hok h n) : inV (.str (wd h)) ((["number", "true", "false", "none", "name", "ask"] : List Str).map V.str) = kL h :=
  by_kind (fun w => inV (.str w) ((["number", "true", "false", "none", "name", "ask"] : List Str).map V.str)) (fun k => k < 3) (by decide +kernel) o
theorem eq_do (o : hok h n) : decide (V.str (wd h) = V.str "do") = isDo h := by
  rw [decS]
  exact by_kind (fun w => decide (w = "do")) (fun k => k == 6) (by decide +kernel) o
theorem eq_call (o : hok h n) : decide (V.str (wd h) = V.str "call") = isCall h := by
  rw [decS]
  exact by_kind (fun w => decide (w = "call")) (fun k => k == 7) (by decide +kernel) o
theorem eq_op (o : hok h n) : decide (V.str (wd h) = V.str "op") = isOp h := by
  rw [decS]
  exact by_kind (fun w => decide (w = "op")) (fun k => k == 8) (by decide +kernel) o
end
end Cm

/-! slices and sums of tuples whichever object they are; rules with K said -/
namespace Cm
open PySem L2 PySem.Spec PyProof.Rows
theorem cut_from {xs : List V} {k : Nat} (h : k ≤ xs.length) : cutV xs (some (k : Int)) Option.none = xs.drop k := by
  unfold cutV
  rw [HT.sIx_nat, HT.sIx_none, Nat.min_eq_left h]
  exact List.take_of_length_le (by rw [List.length_drop]; omega)
theorem cut_to {xs : List V} {k : Nat} (h : k ≤ xs.length) : cutV xs Option.none (some (k : Int)) = xs.take k := by
  unfold cutV
  rw [HT.sIx_nat, HT.sIx_none, Nat.min_eq_left h, List.drop_zero, Nat.sub_zero]
/-- t[k:] of a tuple: whichever object it is -/
theorem sl_from {K : PySem.W.Frag} {a : Addr} {xs : List V} {k : Nat} {σ : L2.St} {H : Hp} {Q : VK} (hs : SqT K H a xs) (hk : k ≤ xs.length) (h : ∀ t H', Same H H' → SqT K H' t (xs.drop k) → Q (.ref t) H') :
    (tNoPart σ H fun u H1 => rSlA K (.ref a) (some (k : Int)) u H1 Q) := by
  refine ⟨a, xs, rfl, hs, fun q => ?_, fun _ p hp => ?_⟩
  · rw [HT.sIx_nat, Nat.min_eq_left hk] at q
    have : k = 0 := q.1
    subst this
    exact h a H (Same.refl H) hs
  · rw [cut_from hk]
    exact h p _ (same_new hp) (.inl (.inl upd_same))
theorem sl_to {K : PySem.W.Frag} {a : Addr} {xs : List V} {k : Nat} {H : Hp} {Q : VK} (hs : SqT K H a xs) (hk : k ≤ xs.length) (h : ∀ t H', Same H H' → SqT K H' t (xs.take k) → Q (.ref t) H') :
    rSlA K (.ref a) Option.none (some (k : Int)) H Q := by
  refine ⟨a, xs, rfl, hs, fun q => ?_, fun _ p hp => ?_⟩
  · rw [HT.sIx_nat, Nat.min_eq_left hk] at q
    have e : xs.take k = xs := List.take_of_length_le (by rw [q.2]; exact Nat.le_refl _)
    refine h a H (Same.refl H) ?_
    rw [e]
    exact hs
  · rw [cut_to hk]
    exact h p _ (same_new hp) (.inl (.inl upd_same))
theorem cat_any {K : PySem.W.Frag} {a b : Addr} {xs ys : List V} {H : Hp} {Q : VK} (ha : SqT K H a xs) (hb : SqT K H b ys) (hl : xs.length + ys.length ≤ sizeLine)
    (h : ∀ t H', Same H H' → SqT K H' t (xs ++ ys) → Q (.ref t) H') : rCatA K (.ref a) (.ref b) H Q := by
  refine ⟨a, b, xs, ys, rfl, rfl, ha, hb, hl, fun e => ?_, fun _ e => ?_, fun _ _ p hp => h p _ (same_new hp) (.inl (.inl upd_same))⟩
  · exact h b H (Same.refl H) (by rw [e]; exact hb)
  · exact h a H (Same.refl H) (by rw [e, List.append_nil]; exact ha)
theorem range_map {α β : Type} (f : α → β) (l : List α) : (List.range l.length).filterMap (fun i => (l[i]?).map f) = l.map f := by
  induction l with
  | nil => rfl
  | cons a l ih =>
    rw [List.length_cons, List.range_succ_eq_map, List.filterMap_cons]
    simp only [List.getElem?_cons_zero, Option.map_some, List.filterMap_map]
    rw [List.map_cons, ← ih]
    congr 1
theorem ke_tupleOf {X : Cx} {K : PySem.W.Frag} {a : Expr} {ta : TE} {p pos : Pos} (hg : Gl X "tuple") (hm : X.mg "tuple" = none) (ha : PE X a ta) (h : X.K = K := by rfl) (na : starEach [a] X.env = (false, eval a X.env) :: starEach [] X.env := by rfl) :
    PE X (.Call (.Name "tuple" p) [a] [] pos) (tThen ta (kTup K)) := by
  subst h
  exact pe_tupleOf hg hm ha na
theorem ne_same' {d : PyData} (h : SeqAt.shaped d = true) : (!PyData.eqv d d) = false := by
  rw [SeqAt.eqv_refl d (SeqAt.canLay_of_shaped h)]
  rfl
theorem kc_isi {X : Cx} {K : PySem.W.Frag} (h : X.K = K := by rfl) : CallR X (.builtin "isinstance") (rIsi K) := by subst h; exact call_isi
theorem one_of {α : Type} {xs : List α} (h : xs.length = 1) : ∃ x, xs = [x] := by
  cases xs with
  | nil => simp at h
  | cons a r =>
    cases r with
    | nil => exact ⟨a, rfl⟩
    | cons b r => simp at h
theorem dpAll_one {K : PySem.W.Frag} {H : Hp} {vs : List V} {d : PyData} (h : DpAll K H vs [d]) : ∃ v, vs = [v] ∧ Dp K H v d := by
  cases h with
  | cons h1 h2 =>
    cases h2
    exact ⟨_, rfl, h1⟩
theorem dps_cat {K : PySem.W.Frag} {H : Hp} {ds es : List PyData} {vs us : List V} (h1 : DpAll K H vs ds) (h2 : DpAll K H us es) : DpAll K H (vs ++ us) (ds ++ es) := DpAll.app h1 h2
theorem free_of {H H' : Hp} {p : Addr} (s : Same H H') (h : H' p = Option.none) : H p = Option.none := by
  cases e : H p with
  | none => rfl
  | some o =>
    have := s _ _ e
    rw [h] at this
    cases this
end Cm

/-! paths of trees -/
namespace Cm
open PySem L2 PySem.Spec PyProof.Rows
def Tr.hd : Tr → Hd
  | .mk h _ => h
def Tr.ps : Tr → List Tr
  | .mk _ ps => ps
def Tr.at : List Int → Tr → Option Tr
  | [], t => some t
  | i :: r, .mk _ ps => if 0 ≤ i then (ps[i.toNat]?).bind (Tr.at r) else none
def Tr.put : List Int → Tr → Tr → Tr
  | [], _, o => o
  | i :: r, .mk h ps, o => match ps[i.toNat]? with
    | some p => .mk h (ps.set i.toNat (Tr.put r p o))
    | none => .mk h ps
mutual
def Tr.paths : Tr → List (List Int)
  | .mk _ ps => [] :: Tr.pathsL 0 ps
def Tr.pathsL : Nat → List Tr → List (List Int)
  | _, [] => []
  | i, t :: ts => t.paths.map (fun p => ((i : Nat) : Int) :: p) ++ Tr.pathsL (i + 1) ts
end
mutual
def Tr.size : Tr → Nat
  | .mk _ ps => Tr.sizes ps + 1
def Tr.sizes : List Tr → Nat
  | [] => 0
  | t :: ts => t.size + Tr.sizes ts
end
theorem at_snoc : ∀ (p : List Int) (i : Int) (t : Tr), Tr.at (p ++ [i]) t = (Tr.at p t).bind (Tr.at [i])
  | [], i, t => rfl
  | j :: r, i, .mk h ps => by
    show (if 0 ≤ j then (ps[j.toNat]?).bind (Tr.at (r ++ [i])) else none) = ((if 0 ≤ j then (ps[j.toNat]?).bind (Tr.at r) else none) : Option Tr).bind (Tr.at [i])
    by_cases q : 0 ≤ j
    · rw [if_pos q, if_pos q]
      cases ps[j.toNat]? with
      | none => rfl
      | some p => exact at_snoc r i p
    · rw [if_neg q, if_neg q]
      rfl
theorem at_one {i : Nat} {h : Hd} {ps : List Tr} : Tr.at [((i : Nat) : Int)] (.mk h ps) = ps[i]? := by
  show (if 0 ≤ ((i : Nat) : Int) then (ps[((i : Nat) : Int).toNat]?).bind (Tr.at []) else none) = _
  rw [if_pos (by omega), Int.toNat_natCast]
  cases ps[i]? <;> rfl
theorem at_ok : ∀ (p : List Int) {t s : Tr}, t.ok → Tr.at p t = some s → s.ok
  | [], t, s, o, e => by cases e; exact o
  | i :: r, .mk h ps, s, o, e => by
    have e' : (if 0 ≤ i then (ps[i.toNat]?).bind (Tr.at r) else none) = some s := e
    by_cases q : 0 ≤ i
    · rw [if_pos q] at e'
      cases hp : ps[i.toNat]? with
      | none => rw [hp] at e'; cases e'
      | some p =>
        rw [hp] at e'
        have o' : hok h ps.length ∧ ps.length ≤ 11 ∧ Tr.oks ps := o
        exact at_ok r (oks_iff.mp o'.2.2 p (List.mem_of_getElem? hp)) e'
    · rw [if_neg q] at e'
      cases e'
theorem at_dep : ∀ (p : List Int) {t s : Tr}, Tr.at p t = some s → s.dep + p.length ≤ t.dep
  | [], t, s, e => by cases e; exact Nat.le_refl _
  | i :: r, .mk h ps, s, e => by
    have e' : (if 0 ≤ i then (ps[i.toNat]?).bind (Tr.at r) else none) = some s := e
    by_cases q : 0 ≤ i
    · rw [if_pos q] at e'
      cases hp : ps[i.toNat]? with
      | none => rw [hp] at e'; cases e'
      | some p =>
        rw [hp] at e'
        have h1 := at_dep r (t := p) e'
        have h2 := deps_le.mp (Nat.le_refl (Tr.deps ps)) p (List.mem_of_getElem? hp)
        show s.dep + (r.length + 1) ≤ Tr.deps ps + 1
        omega
    · rw [if_neg q] at e'
      cases e'
theorem pathsL_snoc (t : Tr) : ∀ (ts : List Tr) (i : Nat), Tr.pathsL i (ts ++ [t]) = Tr.pathsL i ts ++ t.paths.map (fun p => (((i + ts.length : Nat)) : Int) :: p)
  | [], i => by
    show t.paths.map _ ++ [] = [] ++ _
    simp
  | a :: ts, i => by
    show a.paths.map _ ++ Tr.pathsL (i + 1) (ts ++ [t]) = (a.paths.map _ ++ Tr.pathsL (i + 1) ts) ++ _
    rw [pathsL_snoc t ts (i + 1), List.append_assoc, List.length_cons, show i + 1 + ts.length = i + (ts.length + 1) by omega]
mutual
theorem paths_len : ∀ t : Tr, t.paths.length = t.size
  | .mk h ps => by
    show (Tr.pathsL 0 ps).length + 1 = Tr.sizes ps + 1
    rw [pathsL_len 0 ps]
theorem pathsL_len : ∀ (i : Nat) (ts : List Tr), (Tr.pathsL i ts).length = Tr.sizes ts
  | _, [] => rfl
  | i, t :: ts => by
    show (t.paths.map _ ++ Tr.pathsL (i + 1) ts).length = t.size + Tr.sizes ts
    rw [List.length_append, List.length_map, paths_len t, pathsL_len (i + 1) ts]
end
theorem pathsL_mem {q : List Int} : ∀ (ts : List Tr) (i : Nat), q ∈ Tr.pathsL i ts → ∃ (j : Nat) (t : Tr) (p : List Int), ts[j]? = some t ∧ p ∈ t.paths ∧ q = ((i + j : Nat) : Int) :: p
  | [], i, m => by cases m
  | a :: ts, i, m => by
    have m' : q ∈ a.paths.map (fun p => ((i : Nat) : Int) :: p) ++ Tr.pathsL (i + 1) ts := m
    rcases List.mem_append.mp m' with m | m
    · obtain ⟨p, hp, rfl⟩ := List.mem_map.mp m
      exact ⟨0, a, p, rfl, hp, rfl⟩
    · obtain ⟨j, t, p, e1, e2, e3⟩ := pathsL_mem ts (i + 1) m
      exact ⟨j + 1, t, p, by simpa using e1, e2, by rw [e3]; congr 2; omega⟩
theorem paths_at : ∀ (n : Nat) (t : Tr), t.dep ≤ n → ∀ p ∈ t.paths, ∃ s, Tr.at p t = some s := by
  intro n
  induction n with
  | zero =>
    intro t h
    cases t with
    | mk hd ps => exact absurd h (by show ¬ (Tr.deps ps + 1 ≤ 0); omega)
  | succ n ih =>
    intro t h p hp
    cases t with
    | mk hd ps =>
      have hp' : p ∈ ([] : List Int) :: Tr.pathsL 0 ps := hp
      rcases List.mem_cons.mp hp' with rfl | hp'
      · exact ⟨_, rfl⟩
      · obtain ⟨j, t, q, e1, e2, rfl⟩ := pathsL_mem ps 0 hp'
        obtain ⟨s, es⟩ := ih t (dep_mk.mp h t (List.mem_of_getElem? e1)) q e2
        refine ⟨s, ?_⟩
        show (if 0 ≤ ((0 + j : Nat) : Int) then (ps[((0 + j : Nat) : Int).toNat]?).bind (Tr.at q) else none) = some s
        rw [if_pos (by omega), Nat.zero_add, Int.toNat_natCast, e1]
        exact es
theorem paths_size : ∀ (n : Nat) (t : Tr), t.dep ≤ n → ∀ p ∈ t.paths, p.length < t.dep := by
  intro n t h p hp
  obtain ⟨s, es⟩ := paths_at n t h p hp
  have := at_dep p es
  have : 1 ≤ s.dep := by cases s with | mk hd ps => show 1 ≤ Tr.deps ps + 1; omega
  omega
def pathI (x : List Int) : PyData := .tuple (x.map PyData.int)
theorem flat_pathI (xs : List (List Int)) : flatDs (xs.map pathI) = true := flatDs_of _ fun d hd => by
  obtain ⟨x, _, rfl⟩ := List.mem_map.mp hd
  exact flatDs_ints x
theorem dp_pathI {K : PySem.W.Frag} {H : Hp} {t : Addr} {x : List Int} (h : SqT K H t (x.map V.int)) : Dp K H (.ref t) (pathI x) := .tup h (dpAll_ints x)
theorem dpAll_ints_inv {K : PySem.W.Frag} {H : Hp} : ∀ {x : List Int} {vs : List V}, DpAll K H vs (x.map PyData.int) → vs = x.map V.int
  | [], _, h => by cases h; rfl
  | i :: x, _, h => by
    cases h with
    | cons h1 h2 => rw [dp_int h1, dpAll_ints_inv h2]; rfl
theorem pathI_inv {K : PySem.W.Frag} {H : Hp} {v : V} {x : List Int} (h : Dp K H v (pathI x)) : ∃ t, v = .ref t ∧ SqT K H t (x.map V.int) := by
  obtain ⟨a, its, rfl, hs, ha⟩ := dp_tup h
  rw [dpAll_ints_inv ha] at hs
  exact ⟨a, rfl, hs⟩
end Cm

/-! keep forms of trees; once in their place -/
namespace Cm
open PySem L2 PySem.Spec PyProof.Rows
def isKeep : Hd → Bool
  | .one w _ => decide (w = "keep")
  | _ => false
theorem eq_keep {h : Hd} {n : Nat} (o : hok h n) : decide (V.str (wd h) = V.str "keep") = isKeep h := by
  have other : kd h ≠ 3 → decide (wd h = "keep") = false := fun q => by
    have key : ∀ c < 10, c ≠ 3 → ∀ w ∈ wordsOf c, decide (w = ("keep" : Str)) = false := by decide +kernel
    exact key _ (wd_mem o).1 q _ (wd_mem o).2
  rw [decS]
  cases h with
  | one w x => rfl
  | num i => exact other (Nat.ne_of_beq_eq_false rfl)
  | name i => exact other (Nat.ne_of_beq_eq_false rfl)
  | lit i => exact other (Nat.ne_of_beq_eq_false rfl)
  | fn i => exact other (Nat.ne_of_beq_eq_false rfl)
  | bind i _ => exact other (Nat.ne_of_beq_eq_false rfl)
  | doo => exact other (Nat.ne_of_beq_eq_false rfl)
  | call => exact other (Nat.ne_of_beq_eq_false rfl)
  | op i => exact other (Nat.ne_of_beq_eq_false rfl)
  | plain i => exact other (Nat.ne_of_beq_eq_false rfl)
def keepAt (t : Tr) (p : List Int) : Bool := match Tr.at p t with
  | some s => isKeep s.hd
  | none => false
def keepPaths (t : Tr) : List (List Int) := t.paths.filter (keepAt t)
def keepL : Nat → List Tr → List (List Int)
  | _, [] => []
  | i, t :: ts => (keepPaths t).map (fun p => ((i : Nat) : Int) :: p) ++ keepL (i + 1) ts
theorem keepAt_cons {h : Hd} {ps : List Tr} {j : Nat} {t : Tr} (e : ps[j]? = some t) (p : List Int) : keepAt (.mk h ps) (((j : Nat) : Int) :: p) = keepAt t p := by
  unfold keepAt
  show (match (if 0 ≤ ((j : Nat) : Int) then (ps[((j : Nat) : Int).toNat]?).bind (Tr.at p) else none : Option Tr) with | some s => isKeep s.hd | none => false) = _
  rw [if_pos (by omega), Int.toNat_natCast, e]
  rfl
theorem filter_pathsL (h : Hd) : ∀ (ts pre : List Tr), (Tr.pathsL pre.length ts).filter (keepAt (.mk h (pre ++ ts))) = keepL pre.length ts
  | [], pre => rfl
  | t :: ts, pre => by
    show (t.paths.map (fun p => ((pre.length : Nat) : Int) :: p) ++ Tr.pathsL (pre.length + 1) ts).filter _ = (keepPaths t).map _ ++ keepL (pre.length + 1) ts
    have ih := filter_pathsL h ts (pre ++ [t])
    rw [List.length_append, List.length_singleton, List.append_assoc] at ih
    rw [List.filter_append]
    have e2 : pre ++ t :: ts = pre ++ ([t] ++ ts) := rfl
    rw [e2, ih]
    congr 1
    rw [List.filter_map]
    congr 1
    unfold keepPaths
    refine List.filter_congr fun p _ => ?_
    show keepAt (.mk h (pre ++ ([t] ++ ts))) (((pre.length : Nat) : Int) :: p) = keepAt t p
    exact keepAt_cons (by rw [List.getElem?_append_right (Nat.le_refl _), Nat.sub_self]; rfl) p
theorem keepPaths_mk (h : Hd) (ps : List Tr) : keepPaths (.mk h ps) = (if isKeep h = true then [[]] else []) ++ keepL 0 ps := by
  unfold keepPaths
  show (([] : List Int) :: Tr.pathsL 0 ps).filter (keepAt (.mk h ps)) = _
  have e := filter_pathsL h ps []
  simp only [List.nil_append, List.length_nil] at e
  rw [List.filter_cons, e]
  show (if isKeep h = true then _ else _) = _
  by_cases q : isKeep h = true
  · rw [if_pos q, if_pos q]; rfl
  · rw [if_neg q, if_neg q]; rfl
theorem keepL_snoc (t : Tr) : ∀ (ts : List Tr) (i : Nat), keepL i (ts ++ [t]) = keepL i ts ++ (keepPaths t).map (fun p => (((i + ts.length : Nat)) : Int) :: p)
  | [], i => by
    show (keepPaths t).map _ ++ [] = [] ++ _
    simp
  | a :: ts, i => by
    show (keepPaths a).map _ ++ keepL (i + 1) (ts ++ [t]) = ((keepPaths a).map _ ++ keepL (i + 1) ts) ++ _
    rw [keepL_snoc t ts (i + 1), List.append_assoc, List.length_cons, show i + 1 + ts.length = i + (ts.length + 1) by omega]
theorem keepL_le : ∀ (ts : List Tr) (i : Nat), (keepL i ts).length ≤ Tr.sizes ts
  | [], i => Nat.le_refl _
  | t :: ts, i => by
    have := keepL_le ts (i + 1)
    have h1 : (keepPaths t).length ≤ t.size := by rw [← paths_len]; exact List.length_filter_le ..
    show ((keepPaths t).map _ ++ keepL (i + 1) ts).length ≤ t.size + Tr.sizes ts
    rw [List.length_append, List.length_map]
    omega
/-! ### once in the place of keep at the paths of S -/
def reword (b : Bool) : Hd → Hd
  | .one w x => if b = true ∧ w = "keep" then .one "once" x else .one w x
  | h => h
mutual
def Tr.rw (S : List (List Int)) (pre : List Int) : Tr → Tr
  | .mk h ps => .mk (reword (decide (pre ∈ S)) h) (Tr.rwL S pre 0 ps)
def Tr.rwL (S : List (List Int)) (pre : List Int) : Nat → List Tr → List Tr
  | _, [] => []
  | i, t :: ts => Tr.rw S (pre ++ [((i : Nat) : Int)]) t :: Tr.rwL S pre (i + 1) ts
end
theorem rwL_len (S : List (List Int)) (pre : List Int) : ∀ (ts : List Tr) (i : Nat), (Tr.rwL S pre i ts).length = ts.length
  | [], _ => rfl
  | t :: ts, i => by
    show (Tr.rwL S pre (i + 1) ts).length + 1 = ts.length + 1
    rw [rwL_len S pre ts (i + 1)]
theorem rwL_at (S : List (List Int)) (pre : List Int) : ∀ (ts : List Tr) (i j : Nat), (Tr.rwL S pre i ts)[j]? = (ts[j]?).map (Tr.rw S (pre ++ [((i + j : Nat) : Int)]))
  | [], _, _ => rfl
  | t :: ts, i, 0 => rfl
  | t :: ts, i, j + 1 => by
    show (Tr.rwL S pre (i + 1) ts)[j]? = (ts[j]?).map _
    rw [rwL_at S pre ts (i + 1) j, show i + 1 + j = i + (j + 1) by omega]
theorem rwL_eq {S R : List (List Int)} {pre : List Int} : ∀ (ts : List Tr) (i : Nat), (∀ j t, ts[j]? = some t → Tr.rw S (pre ++ [((i + j : Nat) : Int)]) t = Tr.rw R (pre ++ [((i + j : Nat) : Int)]) t) → Tr.rwL S pre i ts = Tr.rwL R pre i ts
  | [], _, _ => rfl
  | t :: ts, i, h => by
    show Tr.rw S _ t :: Tr.rwL S pre (i + 1) ts = Tr.rw R _ t :: Tr.rwL R pre (i + 1) ts
    have h0 := h 0 t rfl
    rw [Nat.add_zero] at h0
    have h1 := rwL_eq (S := S) (R := R) (pre := pre) ts (i + 1) fun j t e => by
      have := h (j + 1) t (by simpa using e)
      rw [show i + 1 + j = i + (j + 1) by omega]
      exact this
    rw [h0, h1]
/-- a path that does not begin so changes nothing -/
theorem rw_irrel {S : List (List Int)} {q : List Int} (t : Tr) : ∀ (pre : List Int), (∀ r, q ≠ pre ++ r) → Tr.rw (S ++ [q]) pre t = Tr.rw S pre t := by
  refine tr_ind (P := fun t => ∀ (pre : List Int), (∀ r, q ≠ pre ++ r) → Tr.rw (S ++ [q]) pre t = Tr.rw S pre t) (fun h ps ih pre hq => ?_) t
  show Tr.mk (reword (decide (pre ∈ S ++ [q])) h) (Tr.rwL (S ++ [q]) pre 0 ps) = Tr.mk (reword (decide (pre ∈ S)) h) (Tr.rwL S pre 0 ps)
  have e1 : decide (pre ∈ S ++ [q]) = decide (pre ∈ S) := by
    have n : pre ≠ q := fun e => hq [] (by rw [e, List.append_nil])
    simp [n]
  rw [e1, rwL_eq ps 0 fun j t e => ih t (List.mem_of_getElem? e) _ fun r z => hq ([((0 + j : Nat) : Int)] ++ r) (by rw [z, List.append_assoc])]
theorem put_rw {S : List (List Int)} : ∀ (p pre : List Int) (t : Tr) (x : Str) (b : Tr), Tr.at p t = some (.mk (.one "keep" x) [b]) →
    ∃ w b', Tr.at p (Tr.rw S pre t) = some (.mk (.one w x) [b']) ∧ Tr.put p (Tr.rw S pre t) (.mk (.one "once" x) [b']) = Tr.rw (S ++ [pre ++ p]) pre t
  | [], pre, t, x, b, e => by
    cases e
    have e2 : Tr.rw (S ++ [pre ++ []]) pre (.mk (.one "keep" x) [b]) = .mk (.one "once" x) [Tr.rw S (pre ++ [((0 : Nat) : Int)]) b] := by
      show Tr.mk (reword (decide (pre ∈ S ++ [pre ++ []])) (.one "keep" x)) [Tr.rw (S ++ [pre ++ []]) (pre ++ [((0 : Nat) : Int)]) b] = _
      rw [List.append_nil, rw_irrel b (pre ++ [((0 : Nat) : Int)]) fun r z => by
        have := congrArg List.length z
        simp at this]
      simp [reword]
    have e3 : ∃ w, reword (decide (pre ∈ S)) (.one "keep" x) = .one w x := by
      show ∃ w, (if decide (pre ∈ S) = true ∧ ("keep" : Str) = "keep" then Hd.one "once" x else Hd.one "keep" x) = .one w x
      split
      · exact ⟨_, rfl⟩
      · exact ⟨_, rfl⟩
    obtain ⟨w, e3⟩ := e3
    refine ⟨w, Tr.rw S (pre ++ [((0 : Nat) : Int)]) b, ?_, ?_⟩
    · show some (Tr.mk (reword (decide (pre ∈ S)) (.one "keep" x)) [Tr.rw S (pre ++ [((0 : Nat) : Int)]) b]) = _
      rw [e3]
    · rw [e2]
      rfl
  | i :: r, pre, .mk h ps, x, b, e => by
    have e' : (if 0 ≤ i then (ps[i.toNat]?).bind (Tr.at r) else none) = some (.mk (.one "keep" x) [b]) := e
    have h0 : 0 ≤ i := by
      by_cases q : 0 ≤ i
      · exact q
      · rw [if_neg q] at e'
        cases e'
    obtain ⟨m, rfl⟩ : ∃ m : Nat, i = (m : Int) := ⟨i.toNat, by omega⟩
    rw [if_pos h0, Int.toNat_natCast] at e'
    cases ec : ps[m]? with
    | none => rw [ec] at e'; cases e'
    | some c =>
      rw [ec] at e'
      obtain ⟨w, b', g1, g2⟩ := put_rw r (pre ++ [(m : Int)]) c x b e'
      have er : (Tr.rwL S pre 0 ps)[m]? = some (Tr.rw S (pre ++ [(m : Int)]) c) := by rw [rwL_at, ec, Nat.zero_add]; rfl
      refine ⟨w, b', ?_, ?_⟩
      · show (if 0 ≤ (m : Int) then ((Tr.rwL S pre 0 ps)[(m : Int).toNat]?).bind (Tr.at r) else none) = _
        rw [if_pos h0, Int.toNat_natCast, er]
        exact g1
      · show (match (Tr.rwL S pre 0 ps)[(m : Int).toNat]? with | some p => Tr.mk (reword (decide (pre ∈ S)) h) ((Tr.rwL S pre 0 ps).set (m : Int).toNat (Tr.put r p _)) | none => _) = _
        rw [Int.toNat_natCast, er]
        show Tr.mk (reword (decide (pre ∈ S)) h) ((Tr.rwL S pre 0 ps).set m (Tr.put r (Tr.rw S (pre ++ [(m : Int)]) c) (.mk (.one "once" x) [b']))) = Tr.mk (reword (decide (pre ∈ S ++ [pre ++ (m : Int) :: r])) h) (Tr.rwL (S ++ [pre ++ (m : Int) :: r]) pre 0 ps)
        rw [g2]
        have e1 : decide (pre ∈ S ++ [pre ++ (m : Int) :: r]) = decide (pre ∈ S) := by
          have n : pre ≠ pre ++ (m : Int) :: r := fun e => by
            have := congrArg List.length e
            simp at this
          simp [n]
        rw [e1]
        congr 1
        have hm : m < ps.length := (List.getElem?_eq_some_iff.mp ec).1
        refine List.ext_getElem? fun j => ?_
        rw [rwL_at]
        by_cases q : j = m
        · subst q
          rw [List.getElem?_set_self (by rw [rwL_len]; exact hm), ec, Nat.zero_add, List.append_assoc]
          rfl
        · rw [List.getElem?_set_ne (Ne.symm q), rwL_at]
          cases ej : ps[j]? with
          | none => rfl
          | some d =>
            show some _ = some _
            rw [rw_irrel d (pre ++ [((0 + j : Nat) : Int)]) fun r' z => q ?_]
            rw [List.append_assoc] at z
            have z2 := List.append_cancel_left z
            simp at z2
            omega
end Cm

namespace K02
open PySem L2 Cm
def top (i : Nat) : Stmt := PySem.Challenge.pw_goonagain_k02_whole_names_free_set_and_c.main.body.getD i (.Pass ⟨0, 0, 0, 0⟩)
structure Txt (mg : Str → Option Value) : Prop where
  abs : mg "abs" = none
  enumerate : mg "enumerate" = none
  int : mg "int" = none
  len : mg "len" = none
  list : mg "list" = none
  min : mg "min" = none
  range : mg "range" = none
  sorted : mg "sorted" = none
  tuple : mg "tuple" = none
  zip : mg "zip" = none
section
variable {P : Program} {w : World} {K : PySem.W.Frag} {mg : Str → Option Value} {base : Heap}
-- mix
abbrev s_l_mix : Stmt := top 14
abbrev N_l_mix : List Str := ["_law_number", "_law_turn", "_law_once", "_law_twice"]
theorem sc_l_mix : FnScope N_l_mix ["_law_number", "_law_turn"] (defScope s_l_mix) := ⟨rfl, rfl, rfl, by decide +kernel, rfl, by decide +kernel, by decide +kernel⟩
theorem ok_mix (T : Txt mg) (D : At K mg "_law_mix" s_l_mix ["_law_number", "_law_turn"]) : Cl P w K mg base 1 "_law_mix" spMix := by
  refine cl_of D sc_l_mix (fun vs H Q E h => ?_) fun f cdv A outer s H vs Q E hr h => ?_
  · obtain ⟨a, b, rfl, _⟩ := h
    rfl
  · obtain ⟨a, b, rfl, k⟩ := h
    refine ⟨_, (pss_cons (ps_set (i := 2) sc_l_mix.nd rfl (Or.inl rfl) (pe_op op_mod (pe_callTy call_int1 (by rfl) T.int (by decide +kernel) (pa_cons (pe_op op_add (pe_op op_add (pe_op op_mul (pv 0) pe_int) (pe_op op_mul (pv 1) pe_int)) pe_int) pa_nil)) pe_int))
      (pss_cons (ps_set (i := 3) sc_l_mix.nd rfl (Or.inl rfl) (pe_op op_mod (pe_callTy call_int1 (by rfl) T.int (by decide +kernel) (pa_cons (pe_op op_add (pe_op op_add (pe_op op_mul (pv 2) (pv 2)) (pe_op op_mul (pe_op op_fdiv (pv 2) pe_int) pe_int)) (pe_op op_mul (pv 1) pe_int)) pa_nil)) pe_int))
      (pss_one (ps_ret (pe_op op_fdiv (pe_op op_mod (pe_callTy call_int1 (by rfl) T.int (by decide +kernel) (pa_cons (pe_op op_add (pe_op op_fdiv (pe_op op_mul (pv 3) (pv 3)) pe_int) (pv 2)) pa_nil)) pe_int) pe_int))))), ?_⟩
    refine ⟨_, rfl, _, _, rfl, rfl, .inr (by decide), ?_⟩
    refine ⟨_, rfl, _, _, rfl, rfl, .inr (by decide), ?_⟩
    refine ⟨_, _, rfl, rfl, _, _, rfl, rfl, .inl ⟨_, rfl, _, _, rfl, rfl, (by show (0 : Int) < _; decide), ?_⟩⟩
    generalize hx : (a * 48271 + b * 16807 + 11) % 2147483647 = x
    have x0 : 0 ≤ x := by omega
    have x1 : x < 2147483647 := by omega
    clear hx
    refine ⟨_, rfl, _, rfl, _, _, rfl, rfl, .inl ⟨by omega, by omega⟩, ?_⟩
    refine ⟨_, rfl, _, _, rfl, rfl, ⟨by decide, by decide⟩, _, _, rfl, rfl, .inr (by decide), ?_⟩
    refine ⟨_, _, rfl, rfl, _, rfl, _, _, rfl, rfl, .inr (by decide), _, _, rfl, rfl, .inl ⟨_, rfl, _, _, rfl, rfl, (by show (0 : Int) < _; decide), ?_⟩⟩
    generalize hy : (x * x + x / 127 * 40692 + b * 69621) % 2147483399 = y
    have y0 : 0 ≤ y := by omega
    have y1 : y < 2147483399 := by omega
    clear hy
    refine ⟨_, rfl, _, rfl, _, _, rfl, rfl, .inl ⟨by omega, by omega⟩, _, _, rfl, rfl, ⟨by decide, by decide⟩, ?_⟩
    refine ⟨_, rfl, _, _, rfl, rfl, .inl ⟨_, rfl, _, _, rfl, rfl, (by show (0 : Int) < _; decide), _, _, rfl, rfl, ⟨by decide, by decide⟩, ?_⟩⟩
    exact k _
-- hand
abbrev s_l_hand : Stmt := top 15
abbrev N_l_hand : List Str := ["_law_script", "_law_total", "_law_k", "_law_cell"]
theorem sc_l_hand : FnScope N_l_hand ["_law_script"] (defScope s_l_hand) := ⟨rfl, rfl, rfl, by decide +kernel, rfl, by decide +kernel, by decide +kernel⟩
theorem ok_hand (T : Txt mg) (D : At K mg "_law_hand" s_l_hand ["_law_script"]) : Cl P w K mg base 1 "_law_hand" (spHand K) := by
  refine cl_of D sc_l_hand (fun vs H Q E h => ?_) fun f cdv A outer s H vs Q E hr h => ?_
  · obtain ⟨a, ns, rfl, _⟩ := h
    rfl
  · obtain ⟨a, ns, rfl, hS, hlen, k⟩ := h
    refine ⟨_, (pss_cons (ps_set (i := 1) sc_l_hand.nd rfl (Or.inl rfl) pe_int)
      (pss_cons (ps_for PassesOwn.never rfl (pi_enum (by rfl) T.enumerate (pa_cons (pv 0) pa_nil)) (pg_tup (by rfl) (pgs_cons (pg_name (i := 2) sc_l_hand.nd rfl (Or.inl rfl)) (pgs_cons (pg_name (i := 3) sc_l_hand.nd rfl (Or.inl rfl)) pgs_nil)))
        (pss_one (ps_set (i := 1) sc_l_hand.nd rfl (Or.inl rfl) (pe_op op_mod (pe_callTy call_int1 (by rfl) T.int (by decide +kernel) (pa_cons (pe_op op_add (pe_op op_mul (pv 1) pe_int) (pe_op op_mul (pe_callTy call_int1 (by rfl) T.int (by decide +kernel) (pa_cons (pv 3) pa_nil)) (pe_op op_add (pv 2) pe_int))) pa_nil)) pe_int))))
      (pss_one (ps_ret (pe_lst (pa_cons (pe_lc (own := [("_law_cell", 3)]) rfl sc_l_hand.nd (pi_list (pv 0)) (blkOk_by (N := N_l_hand) (sc := defScope s_l_hand) (by decide +kernel))
      (fun _ _ _ _ _ => (pg_name (i := 3) sc_l_hand.nd rfl (Or.inl rfl)))
      (fun _ _ _ _ _ => pts_nil)
      (fun _ _ _ _ _ => (pe_callB call_abs (by rfl) T.abs (by decide +kernel) (pa_cons (pe_callTy call_int1 (by rfl) T.int (by decide +kernel) (pa_cons (pv 3) pa_nil)) pa_nil)))) (pa_cons pe_int (pa_cons pe_int (pa_cons (pv 1) pa_nil))))))))), ?_⟩
    refine ⟨_, rfl, a, _, rfl, hS, ?_⟩
    refine for_it (walk_enum (xs := ns.map V.int)) (fun i σ H' => ∃ (t : Int) (v2 v3 : Option V), σ = [some (.ref a), some (.int t), v2, v3] ∧ Same H H') ⟨0, none, none, rfl, Same.refl H⟩ (fun i σ H' _ z => ?_) ?_ ?_
    · obtain ⟨t, v2, v3, rfl, s1⟩ := z
      exact s1.seq hS
    · rintro i x σ H1 H2 hi ⟨t, v2, v3, rfl, s1⟩ ⟨T1, x1, x2, rfl, hT, rfl, e1, e2⟩
      cases e1
      obtain ⟨n, en, rfl⟩ := map_at e2
      refine ⟨T1, _, rfl, .inl (.inl upd_same), rfl, _, _, rfl, _, _, rfl, rfl, ?_⟩
      refine ⟨_, rfl, _, _, rfl, rfl, .inr (by decide), _, rfl, .inl ⟨_, rfl, ?_⟩⟩
      refine ⟨_, rfl, _, _, rfl, rfl, _, _, rfl, rfl, .inr ⟨?_, ?_⟩, ?_⟩
      · rw [List.length_map] at hi
        omega
      · rw [List.length_map] at hi
        omega
      refine ⟨_, _, rfl, rfl, .inl ⟨_, rfl, _, _, rfl, rfl, (by show (0 : Int) < _; decide), ?_⟩⟩
      exact ⟨_, _, _, rfl, s1.trans (same_new hT)⟩
    · rintro σ H1 ⟨t, v2, v3, rfl, s1⟩
      refine ⟨_, rfl, a, rfl, ⟨_, s1.seq hS⟩, fun D hD => ?_⟩
      refine lc_it (walk_list (xs := ns.map V.int)) (fun i H' => ∃ acc : List Int, Same H1 H' ∧ H' D = some (.lst (acc.map V.int)) ∧ acc.length = i) ⟨[], same_new hD, upd_same, rfl⟩ (fun i H' _ z => ?_) ?_ ?_
      · obtain ⟨acc, s2, _⟩ := z
        exact (s1.trans s2).seq hS
      · rintro i x H2 H3 hi ⟨acc, s2, hacc, hl⟩ ⟨rfl, e2⟩
        obtain ⟨n, en, rfl⟩ := map_at e2
        rw [List.length_map] at hi
        refine ⟨rfl, ?_⟩
        refine ⟨_, rfl, .inl ⟨_, rfl, _, rfl, _, hacc, ?_, ?_⟩⟩
        · rw [List.length_map]
          exact Nat.lt_of_lt_of_le (show acc.length < 63 by omega) (by decide)
        · refine ⟨acc ++ [if n < 0 then -n else n], fun b o e => ?_, ?_, ?_⟩
          · have hb : b ≠ D := ne_of_none e hD
            rw [upd_ne hb]
            exact s2 b o e
          · rw [upd_same, List.map_append]
            rfl
          · rw [List.length_append, hl]
            rfl
      · rintro H2 ⟨acc, s2, hacc, hl⟩
        refine ⟨_, rfl, by show 4 ≤ sizeLine; decide, fun p hp => ?_⟩
        rw [List.length_map] at hl
        have npD : D ≠ p := ne_of_none hacc hp
        refine k p D _ ((s1.trans s2).trans (same_new hp)) ((s1.trans s2).free hp) (s1.free hD) ⟨acc, _, _, _, upd_same, ?_, npD, Int.le_refl 0, by omega⟩
        rw [upd_ne npD]
        exact hacc
end
section
variable {P : Program} {w : World} {K : PySem.W.Frag} {mg : Str → Option Value} {base : Heap}
abbrev s_l_draw : Stmt := top 16
abbrev N_l_draw : List Str := ["_law_hand_here", "_law_many", "_law_cell", "_law_rest"]
theorem sc_l_draw : FnScope N_l_draw ["_law_hand_here", "_law_many"] (defScope s_l_draw) := ⟨rfl, rfl, rfl, by decide +kernel, rfl, by decide +kernel, by decide +kernel⟩
theorem ok_draw (T : Txt mg) (c_l_mix : Cl P w K mg base 1 "_law_mix" spMix) (D : At K mg "_law_draw" s_l_draw ["_law_hand_here", "_law_many"]) : Cl P w K mg base 2 "_law_draw" spDraw := by
  refine cl_of D sc_l_draw (fun vs H Q E h => ?_) fun f cdv A outer s H vs Q E hr h => ?_
  · obtain ⟨h, c, m, rfl, _⟩ := h
    rfl
  · obtain ⟨h, c, m, rfl, ⟨cells, i, b, t, e1, e2, nch, hi, hlen⟩, hm0, hm1, k⟩ := h
    refine ⟨_, (pss_mid (ps_if (PW.pt (pw_and (pt_cmpR op_eq (pe_ix ix_list (pv 0) pe_int (fun _ _ => rfl)) pe_int (nomark _)) (pw_and1 (pt_cmpR op_lt (pe_ix ix_list (pv 0) pe_int (fun _ _ => rfl)) (pe_callB call_len_seq (by rfl) T.len (by decide +kernel) (pa_cons (pe_ix ix_list (pv 0) pe_int (fun _ _ => rfl)) pa_nil)) (nomark _)))))
        (pss_cons (ps_set (i := 2) sc_l_draw.nd rfl (Or.inl rfl) (pe_ix ix_list (pe_ix ix_list (pv 0) pe_int (fun _ _ => rfl)) (pe_ix ix_list (pv 0) pe_int (fun _ _ => rfl)) (fun _ _ => rfl)))
        (pss_cons (ps_asg (pe_op op_add (pe_ix ix_list (pv 0) pe_int (fun _ _ => rfl)) pe_int) (pg_sub (pv 0) pe_int set_list))
        (pss_cons (ps_if (pt_cmpR op_lt (pv 2) (pe_op op_pow pe_int pe_int) (nomark _))
          (pss_one (ps_ret (pe_op op_mod (pe_callTy call_int1 (by rfl) T.int (by decide +kernel) (pa_cons (pe_c c_l_mix hr (by decide) (by rfl) (pa_cons (pe_op op_mod (pe_callTy call_int1 (by rfl) T.int (by decide +kernel) (pa_cons (pv 2) pa_nil)) pe_int) (pa_cons (pe_ix ix_list (pv 0) pe_int (fun _ _ => rfl)) pa_nil))) pa_nil)) (pv 1))))
          pss_nil)
        (pss_one (ps_asg (pv 2) (pg_sub (pv 0) pe_int set_list))))))
        pss_nil)
      (pss_cons (ps_if (pt_cmpR op_gt (pe_ix ix_list (pv 0) pe_int (fun _ _ => rfl)) pe_int (nomark _))
        (pss_cons (ps_set (i := 3) sc_l_draw.nd rfl (Or.inl rfl) (pe_ix ix_list (pv 0) pe_int (fun _ _ => rfl)))
        (pss_cons (ps_asg (pe_op op_fdivW (pv 3) (pv 1)) (pg_sub (pv 0) pe_int set_list))
        (pss_one (ps_ret (pe_op op_mod (pe_callTy call_int1 (by rfl) T.int (by decide +kernel) (pa_cons (pv 3) pa_nil)) (pv 1))))))
        pss_nil)
      (pss_cons (ps_asg (pe_op op_mod (pe_callTy call_int1 (by rfl) T.int (by decide +kernel) (pa_cons (pe_op op_add (pe_ix ix_list (pv 0) pe_int (fun _ _ => rfl)) pe_int) pa_nil)) pe_int) (pg_sub (pv 0) pe_int set_list))
      (pss_one (ps_ret (pe_op op_mod (pe_callTy call_int1 (by rfl) T.int (by decide +kernel) (pa_cons (pe_c c_l_mix hr (by decide) (by rfl) (pa_cons (pe_ix ix_list (pv 0) pe_int (fun _ _ => rfl)) (pa_cons (pe_ix ix_list (pv 0) pe_int (fun _ _ => rfl)) pa_nil))) pa_nil)) (pv 1))))))), ?_⟩
    have big : CDivW b m := wide_div (b := 100) hm0 (by omega) (by decide) (by decide)
    have kh0 : ∀ {ys : List V}, Kh h H (upd H h (.lst ys)) := Kp.put (fun a ha => by rw [ha]; exact ⟨_, e1⟩) rfl
    refine ⟨fun σ' H' => ∃ (i b t : Int) (v2 v3 : Option V), σ' = [some (.ref h), some (.int m), v2, v3] ∧ Kh h H H' ∧ H' h = some (.lst [.ref c, .int i, .int b, .int t]) ∧ H' c = some (.lst (cells.map V.int)) ∧ 0 ≤ i, ?_, ?_⟩
    · refine ⟨_, rfl, _, _, _, _, rfl, rfl, .inl (.inl e1), rfl, rfl, _, rfl, ?_⟩
      refine ite2 (fun _ => ?_) (fun _ => ?_)
      · refine ⟨_, rfl, _, _, _, _, rfl, rfl, .inl (.inl e1), rfl, _, rfl, _, _, _, _, rfl, rfl, .inl (.inl e1), rfl, c, _, rfl, .inl (.inl (.inl e2)), _, _, rfl, rfl, _, rfl, ?_⟩
        refine ite2 (fun hlt => ?_) (fun _ => ?_)
        · have hlt' : i < (cells.length : Int) := by
            have := of_decide_eq_true hlt
            rw [List.length_map] at this
            exact this
          obtain ⟨j, rfl⟩ : ∃ j : Nat, i = (j : Int) := ⟨i.toNat, by omega⟩
          have hj : j < cells.length := by omega
          have hat : atI (cells.map V.int) (j : Int) = some (.int cells[j]) := atI_nat (by rw [List.getElem?_map, List.getElem?_eq_getElem hj]; rfl)
          refine ⟨_, rfl, _, _, _, _, rfl, rfl, .inl (.inl e1), rfl, _, rfl, _, _, _, _, rfl, rfl, .inl (.inl e1), rfl, c, _, _, _, rfl, rfl, .inl (.inl e2), hat, ?_⟩
          refine ⟨_, rfl, _, _, _, _, rfl, rfl, .inl (.inl e1), rfl, _, _, rfl, rfl, _, rfl, h, _, _, 1, rfl, rfl, e1, rfl, ?_⟩
          have e2' : upd H h (.lst [.ref c, .int ((j : Int) + 1), .int b, .int t]) c = some (.lst (cells.map V.int)) := by rw [upd_ne nch]; exact e2
          refine ⟨_, rfl, _, _, rfl, rfl, ⟨by decide, by decide, by decide⟩, _, _, rfl, rfl, _, rfl, ?_⟩
          refine ite2 (fun _ => ?_) (fun _ => ?_)
          · refine ⟨_, rfl, .inl ⟨_, rfl, _, _, rfl, rfl, (by show (0 : Int) < _; decide), _, rfl, _, _, _, _, rfl, rfl, .inl (.inl upd_same), rfl, ?_⟩⟩
            refine ⟨_, _, rfl, fun n => .inl ⟨_, rfl, _, rfl, _, _, rfl, rfl, hm0, ?_⟩⟩
            exact k _ _ (Int.emod_nonneg _ (by omega)) (Int.emod_lt_of_pos _ hm0) kh0 ⟨cells, _, _, _, upd_same, e2', nch, by omega, hlen⟩
          · refine ⟨_, rfl, _, rfl, h, _, _, 2, rfl, rfl, upd_same, rfl, ?_⟩
            rw [upd_upd]
            exact ⟨_, _, _, _, _, rfl, kh0, upd_same, by rw [upd_ne nch]; exact e2, by omega⟩
        · exact ⟨i, b, t, _, _, rfl, Kp.refl (fun a ha => by rw [ha]; exact ⟨_, e1⟩), e1, e2, hi⟩
      · exact ⟨i, b, t, _, _, rfl, Kp.refl (fun a ha => by rw [ha]; exact ⟨_, e1⟩), e1, e2, hi⟩
    · rintro σ' H' ⟨i, b, t, v2, v3, rfl, kh, e1, e2, hi⟩
      have kh1 : ∀ {ys : List V}, Kh h H (upd H' h (.lst ys)) := kh.trans (Kp.put (fun a ha => by rw [ha]; exact ⟨_, e1⟩) rfl)
      refine ⟨_, rfl, _, _, _, _, rfl, rfl, .inl (.inl e1), rfl, _, _, rfl, rfl, _, rfl, ?_⟩
      refine ite2 (fun _ => ?_) (fun _ => ?_)
      · refine ⟨_, rfl, _, _, _, _, rfl, rfl, .inl (.inl e1), rfl, _, rfl, _, rfl, _, _, rfl, rfl, big, _, rfl, h, _, _, 2, rfl, rfl, e1, rfl, ?_⟩
        refine ⟨_, rfl, .inl ⟨_, rfl, _, rfl, _, _, rfl, rfl, hm0, ?_⟩⟩
        exact k _ _ (Int.emod_nonneg _ (by omega)) (Int.emod_lt_of_pos _ hm0) kh1 ⟨cells, _, _, _, upd_same, by rw [upd_ne nch]; exact e2, nch, hi, hlen⟩
      · refine ⟨_, rfl, _, _, _, _, rfl, rfl, .inl (.inl e1), rfl, _, _, rfl, rfl, .inl ⟨_, rfl, _, _, rfl, rfl, (by show (0 : Int) < _; decide), _, rfl, h, _, _, 3, rfl, rfl, e1, rfl, ?_⟩⟩
        refine ⟨_, rfl, _, _, _, _, rfl, rfl, .inl (.inl upd_same), rfl, _, rfl, _, _, _, _, rfl, rfl, .inl (.inl upd_same), rfl, ?_⟩
        refine ⟨_, _, rfl, fun n => .inl ⟨_, rfl, _, rfl, _, _, rfl, rfl, hm0, ?_⟩⟩
        exact k _ _ (Int.emod_nonneg _ (by omega)) (Int.emod_lt_of_pos _ hm0) kh1 ⟨cells, _, _, _, upd_same, by rw [upd_ne nch]; exact e2, nch, hi, hlen⟩
end
section
variable {P : Program} {w : World} {K : PySem.W.Frag} {mg : Str → Option Value} {base : Heap}
abbrev s_l_pick : Stmt := top 17
abbrev N_l_pick : List Str := ["_law_hand_here", "_law_things"]
theorem sc_l_pick : FnScope N_l_pick ["_law_hand_here", "_law_things"] (defScope s_l_pick) := ⟨rfl, rfl, rfl, by decide +kernel, rfl, by decide +kernel, by decide +kernel⟩
theorem ok_pick (T : Txt mg) (c_l_draw : Cl P w K mg base 2 "_law_draw" spDraw) (D : At K mg "_law_pick" s_l_pick ["_law_hand_here", "_law_things"]) : Cl P w K mg base 3 "_law_pick" (spPick K) := by
  refine cl_of D sc_l_pick (fun vs H Q E h => ?_) fun f cdv A outer s H vs Q E hr h => ?_
  · obtain ⟨h, c, a, xs, rfl, _⟩ := h
    rfl
  · obtain ⟨h, c, a, xs, rfl, hh, hx, hne, hlen, k⟩ := h
    have hpos : 0 < xs.length := List.length_pos_iff.mpr hne
    refine ⟨_, (pss_one (ps_ret (pe_ix ix_seq (pv 1) (pe_c c_l_draw hr (by decide) (by rfl) (pa_cons (pv 0) (pa_cons (pe_callB call_len_seq (by rfl) T.len (by decide +kernel) (pa_cons (pv 1) pa_nil)) pa_nil))) (fun _ _ => rfl)))), ?_⟩
    refine ⟨_, rfl, _, rfl, _, rfl, a, xs, rfl, ?_, h, c, _, rfl, hh, by omega, Int.lt_of_le_of_lt (show (xs.length : Int) ≤ 1000 by omega) (by decide), fun n H1 h0 h1 kh hh1 => ?_⟩
    · rcases hx with hx | hx
      · exact .inl hx.1
      · exact .inr hx
    · obtain ⟨j, rfl⟩ : ∃ j : Nat, n = (j : Int) := ⟨n.toNat, by omega⟩
      have hj : j < xs.length := by omega
      have hat : atI xs (j : Int) = some xs[j] := atI_nat (List.getElem?_eq_getElem hj)
      rcases hx with ⟨hx, hn⟩ | hx
      · refine .inl ⟨a, xs, _, _, rfl, rfl, ?_, hat, k _ _ (List.getElem_mem hj) kh hh1⟩
        rcases hx with (q | ⟨o, q⟩) | q
        · exact .inl (.inl (kh.st _ _ hn q))
        · exact .inl (.inr ⟨o, kh.st _ _ hn q⟩)
        · exact .inr q
      · exact .inr (.inl ⟨a, xs, _, _, rfl, rfl, kh.tup hx, hat, k _ _ (List.getElem_mem hj) kh hh1⟩)
end
end K02

namespace K02
open PySem L2 Cm
/-- the parts of a form, as a tuple -/
def spParts (K : PySem.W.Frag) : Sp := fun vs H Q _ => ∃ (v : V) (h : Hd) (ds : List PyData), vs = [v] ∧ Dp K H v (encH h ds) ∧ hok h ds.length ∧ flatDs ds = true ∧ ds.length ≤ 100 ∧
  ∀ (t : Addr) (us : List V) (H' : Hp), Same H H' → SqT K H' t us → DpAll K H' us ds → Q (.ref t) H'
section
variable {P : Program} {w : World} {K : PySem.W.Frag} {mg : Str → Option Value} {base : Heap}
abbrev s_p_parts_of : Stmt := top 4
abbrev N_p_parts_of : List Str := ["tree", "word", "_", "side"]
theorem sc_p_parts_of : FnScope N_p_parts_of ["tree"] (defScope s_p_parts_of) := ⟨rfl, rfl, rfl, by decide +kernel, rfl, by decide +kernel, by decide +kernel⟩
theorem ok_parts_of (T : Txt mg) (D : At K mg "parts_of" s_p_parts_of ["tree"]) : Cl P w K mg base 1 "parts_of" (spParts K) := by
  refine cl_of D sc_p_parts_of (fun vs H Q E h => ?_) fun f cdv A outer s H vs Q E hr h => ?_
  · obtain ⟨v, h, ds, rfl, _⟩ := h
    rfl
  · obtain ⟨v, h, ds, rfl, hd, o, fl, hlen, k⟩ := h
    obtain ⟨a, its, rfl, hs, hx⟩ := view hd
    refine ⟨_, (pss_cons (ps_set (i := 1) sc_p_parts_of.nd rfl (Or.inl rfl) (pe_ix ix_tup (pv 0) pe_int (fun _ _ => rfl)))
      (pss_cons (ps_if (pt_inW (pv 1) (.cons (.cons (.cons (.cons (.cons .nil))))) (show 5 ≤ sizeLine by decide) (by rfl))
        (pss_one (ps_ret (pe_tup (pa_cons (pe_ix ix_tup (pv 0) pe_int (fun _ _ => rfl)) pa_nil))))
        pss_nil)
      (pss_cons (ps_if (pt_inW (pv 1) (.cons (.cons .nil)) (show 2 ≤ sizeLine by decide) (by rfl))
        (pss_one (ps_ret (pe_op op_catA (pe_tupleOf (by rfl) T.tuple (pe_lc (own := [("_", 2), ("side", 3)]) (g := gTup K 2 (gCons (gName 2) (gCons (gName 3) gNil))) rfl sc_p_parts_of.nd (pi_tup (pe_ix ix_tup (pv 0) pe_int (fun _ _ => rfl))) (blkOk_by (N := N_p_parts_of) (sc := defScope s_p_parts_of) (by decide +kernel))
      (fun _ _ _ _ _ => (pg_tup rfl (pgs_cons (pg_name (i := 2) sc_p_parts_of.nd rfl (Or.inl rfl)) (pgs_cons (pg_name (i := 3) sc_p_parts_of.nd rfl (Or.inl rfl)) pgs_nil))))
      (fun _ _ _ _ _ => pts_nil)
      (fun _ _ _ _ _ => (pv 3)))) (pe_tup (pa_cons (pe_ix ix_tup (pv 0) pe_int (fun _ _ => rfl)) pa_nil)))))
        pss_nil)
      (pss_cons (ps_if (pt_cmpR op_eq (pv 1) pe_str (nomark _))
        (pss_one (ps_ret (pe_tupleOf (by rfl) T.tuple (pe_ix ix_tup (pv 0) pe_int (fun _ _ => rfl)))))
        pss_nil)
      (pss_cons (ps_if (pt_cmpR op_eq (pv 1) pe_str (nomark _))
        (pss_one (ps_ret (pe_op op_catA (pe_tup (pa_cons (pe_ix ix_tup (pv 0) pe_int (fun _ _ => rfl)) pa_nil)) (pe_tupleOf (by rfl) T.tuple (pe_ix ix_tup (pv 0) pe_int (fun _ _ => rfl))))))
        pss_nil)
      (pss_cons (ps_if (pt_cmpR op_eq (pv 1) pe_str (nomark _))
        (pss_one (ps_ret (pe_tupleOf (by rfl) T.tuple (pe_ix ix_tup (pv 0) pe_int (fun _ _ => rfl)))))
        pss_nil)
      (pss_cons (ps_if (pt_inW (pv 1) (.cons (.cons (.cons (.cons .nil)))) (show 4 ≤ sizeLine by decide) (by rfl))
        (pss_one (ps_ret (pe_tupleOf (by rfl) T.tuple (pe_slice sl_tupA (pv 0) (po_some pe_int) po_none))))
        pss_nil)
      (pss_one (ps_ret (pe_tup pa_nil)))))))))), ?_⟩
    have hhd := hx.head
    refine ⟨_, rfl, a, its, _, _, rfl, rfl, hs, hhd, ?_⟩
    refine ⟨_, rfl, rfl, fun H1 s1 => ?_⟩
    rw [in_F o]
    cases eF : kF h with
    | true =>
      refine iteT ?_
      have hx1 := hx.same s1
      have hs1 := sqt_same s1 hs
      obtain ⟨v2, d, rfl, e2, hv2⟩ : ∃ v2 d, ds = [d] ∧ atI its 2 = some v2 ∧ Dp K H1 v2 d := by
        cases h with
        | fn xs =>
          obtain ⟨d, rfl⟩ := one_of o.1
          obtain ⟨q, vs, rfl, _, hv⟩ := hx1
          obtain ⟨v, rfl, hv'⟩ := dpAll_one hv
          exact ⟨v, d, rfl, atI_nat (j := 2) rfl, hv'⟩
        | one w x =>
          obtain ⟨d, rfl⟩ := one_of o.1
          obtain ⟨vs, rfl, hv⟩ := hx1
          obtain ⟨v, rfl, hv'⟩ := dpAll_one hv
          exact ⟨v, d, rfl, atI_nat (j := 2) rfl, hv'⟩
        | _ => cases eF
      refine ⟨_, rfl, a, _, _, _, rfl, rfl, hs1, e2, by show 1 ≤ sizeLine; decide, fun q hq => ?_⟩
      exact k q _ _ (s1.trans (same_new hq)) (.inl (.inl upd_same)) (.cons (dp_same (same_new hq) _ _ hv2) .nil)
    | false =>
      refine iteF ?_
      refine ⟨_, rfl, rfl, fun H2 s2 => ?_⟩
      have S2 := s1.trans s2
      rw [in_B o]
      cases eB : kB h with
      | true =>
        refine iteT ?_
        have hx2 := hx.same S2
        have hs2 := sqt_same S2 hs
        cases h with
        | bind w xs =>
          obtain ⟨q, rows, vs, rfl, hq, hrows, hv⟩ := hx2
          have hdl : ds.length = xs.length + 1 := o.1
          have hrl : rows.length = xs.length := by
            have := DpAll.len hrows
            rw [List.length_map, List.length_zip] at this
            omega
          refine ⟨_, rfl, a, _, _, _, rfl, rfl, hs2, atI_nat (j := 1) rfl, q, rfl, ⟨_, hq⟩, fun L hL => ?_⟩
          refine lc_data (K := K) (walk_tup (xs := rows)) (fun i => ((ds.take xs.length)[i]?).map id) hL (by omega) (fun H' s => sqt_same s hq) (fun i _ d e => ?_) ?_ ?_
          · obtain ⟨d', e', rfl⟩ := Option.map_eq_some_iff.mp e
            exact flatDs_all fl _ (List.mem_of_mem_take (List.mem_of_getElem? e'))
          · rintro i x H3 H4 hi s3 ⟨rfl, e2⟩ Q1 Q0 q1 q0
            obtain ⟨d, g1, g2⟩ := DpAll.atV hrows e2
            obtain ⟨p, ep, rfl⟩ := map_at g1
            obtain ⟨r, its3, rfl, hr3, hi3⟩ := dp_tup (dp_same s3 _ _ g2)
            cases hi3 with
            | cons h1 h2 =>
              obtain ⟨v, rfl, h3⟩ := dpAll_one h2
              refine ⟨r, _, rfl, hr3, rfl, _, _, rfl, _, _, rfl, rfl, rfl, ?_⟩
              refine ⟨_, rfl, q1 _ _ p.2 ?_ (Same.refl _) h3⟩
              have := List.getElem?_zip_eq_some.mp ep
              rw [List.getElem?_take_of_lt (by omega), this.2]
              rfl
          · intro H3 acc s3 hacc ha3
            rw [show rows.length = (ds.take xs.length).length by rw [List.length_take]; omega, range_map, List.map_id] at ha3
            refine .inl ⟨L, _, rfl, .inl (.inl hacc), fun t3 ht3 => ?_⟩
            have s4 := same_new (o := .tup acc) ht3
            obtain ⟨dl, edl⟩ := one_of (show (ds.drop xs.length).length = 1 by rw [List.length_drop]; omega)
            rw [edl] at hv
            obtain ⟨vl, rfl, hvl⟩ := dpAll_one hv
            have s34 := s3.trans s4
            refine ⟨_, rfl, a, _, _, _, rfl, rfl, sqt_same s34 hs2, atI_nat (j := 2) rfl, by show 1 ≤ sizeLine; decide, fun t5 ht5 => ?_⟩
            have s5 := same_new (o := .tup [vl]) ht5
            have hl3 := DpAll.len ha3
            rw [List.length_take] at hl3
            refine cat_any (sqt_same s5 (.inl (.inl upd_same))) (.inl (.inl upd_same)) (Nat.le_trans (show acc.length + 1 ≤ 200 by omega) (by decide)) fun t6 H6 s6 ht6 => ?_
            refine k t6 _ H6 ((S2.trans s34).trans (s5.trans s6)) ht6 ?_
            have h7 : DpAll K H6 (acc ++ [vl]) (ds.take xs.length ++ [dl]) := DpAll.app (dps_same (s4.trans (s5.trans s6)) _ _ ha3) (.cons (dp_same (s34.trans (s5.trans s6)) _ _ hvl) .nil)
            rw [← edl, List.take_append_drop] at h7
            exact h7
        | _ => cases eB
      | false =>
        refine iteF ?_
        refine ⟨_, rfl, rfl, _, rfl, ?_⟩
        rw [eq_do o]
        cases eD : isDo h with
        | true =>
          refine iteT ?_
          have hx2 := hx.same S2
          cases h with
          | doo =>
            obtain ⟨q, vs, rfl, hq, hv⟩ := hx2
            refine ⟨_, rfl, a, _, _, _, rfl, rfl, sqt_same S2 hs, atI_nat (j := 1) rfl, .inr ⟨q, _, rfl, hq, ?_⟩⟩
            exact k q vs _ S2 hq hv
          | _ => cases eD
        | false =>
          refine iteF ?_
          refine ⟨_, rfl, rfl, _, rfl, ?_⟩
          rw [eq_call o]
          cases eC : isCall h with
          | true =>
            refine iteT ?_
            have hx2 := hx.same S2
            cases h with
            | call =>
              obtain ⟨q, us, vs, rfl, hu, hq, hv⟩ := hx2
              have hdl : 1 ≤ ds.length := o
              obtain ⟨d0, e0⟩ := one_of (show (ds.take 1).length = 1 by rw [List.length_take]; omega)
              rw [e0] at hu
              obtain ⟨u0, rfl, hu0⟩ := dpAll_one hu
              refine ⟨_, rfl, a, _, _, _, rfl, rfl, sqt_same S2 hs, atI_nat (j := 1) rfl, by show 1 ≤ sizeLine; decide, fun t3 ht3 => ?_⟩
              have s3 := same_new (o := .tup [u0]) ht3
              refine ⟨_, rfl, a, _, _, _, rfl, rfl, sqt_same (S2.trans s3) hs, atI_nat (j := 2) rfl, .inr ⟨q, _, rfl, sqt_same s3 hq, ?_⟩⟩
              have hvl := DpAll.len hv
              rw [List.length_drop] at hvl
              refine cat_any (.inl (.inl upd_same)) (sqt_same s3 hq) (Nat.le_trans (show 1 + vs.length ≤ 200 by omega) (by decide)) fun t4 H4 s4 ht4 => ?_
              refine k t4 _ H4 (S2.trans (s3.trans s4)) ht4 ?_
              have h7 : DpAll K H4 ([u0] ++ vs) ([d0] ++ ds.drop 1) := DpAll.app (.cons (dp_same (s3.trans s4) _ _ hu0) .nil) (dps_same (s3.trans s4) _ _ hv)
              rw [← e0, List.take_append_drop] at h7
              exact h7
            | _ => cases eC
          | false =>
            refine iteF ?_
            refine ⟨_, rfl, rfl, _, rfl, ?_⟩
            rw [eq_op o]
            cases eO : isOp h with
            | true =>
              refine iteT ?_
              have hx2 := hx.same S2
              cases h with
              | op o' =>
                obtain ⟨q, vs, rfl, hq, hv⟩ := hx2
                refine ⟨_, rfl, a, _, _, _, rfl, rfl, sqt_same S2 hs, atI_nat (j := 2) rfl, .inr ⟨q, _, rfl, hq, ?_⟩⟩
                exact k q vs _ S2 hq hv
              | _ => cases eO
            | false =>
              refine iteF ?_
              refine ⟨_, rfl, rfl, fun H3 s3 => ?_⟩
              have S3 := S2.trans s3
              rw [in_P o]
              cases eP : kP h with
              | true =>
                refine iteT ?_
                have hx3 := hx.same S3
                cases h with
                | plain w =>
                  obtain ⟨vs, rfl, hv⟩ := hx3
                  refine ⟨_, rfl, 1, rfl, ?_⟩
                  refine sl_from (k := 1) (sqt_same S3 hs) (by rw [List.length_cons]; omega) fun t4 H4 s4 ht4 => ?_
                  refine .inr ⟨t4, _, rfl, ht4, ?_⟩
                  exact k t4 vs _ (S3.trans s4) ht4 (dps_same s4 _ _ hv)
                | _ => cases eP
              | false =>
                refine iteF ?_
                refine ⟨by show 0 ≤ sizeLine; decide, fun t4 ht4 => ?_⟩
                have e0 : ds = [] := by
                  cases h with
                  | num i => exact List.length_eq_zero_iff.mp o
                  | name i => exact List.length_eq_zero_iff.mp o.1
                  | lit i => exact List.length_eq_zero_iff.mp o.1
                  | one _ _ => cases eF
                  | fn _ => cases eF
                  | bind _ _ => cases eB
                  | doo => cases eD
                  | call => cases eC
                  | op _ => cases eO
                  | plain _ => cases eP
                subst e0
                exact k t4 [] _ (S3.trans (same_new ht4)) (.inl (.inl upd_same)) .nil
end
end K02

namespace K02
open PySem L2 Cm
/-- the parts of a form, as a new list -/
def spPartsL (K : PySem.W.Frag) : Sp := fun vs H Q _ => ∃ (v : V) (h : Hd) (ds : List PyData), vs = [v] ∧ Dp K H v (encH h ds) ∧ hok h ds.length ∧ flatDs ds = true ∧ ds.length ≤ 100 ∧
  ∀ (l : Addr) (us : List V) (H' : Hp), Same H H' → H l = none → H' l = some (.lst us) → DpAll K H' us ds → Q (.ref l) H'
section
variable {P : Program} {w : World} {K : PySem.W.Frag} {mg : Str → Option Value} {base : Heap}
abbrev s_l_parts : Stmt := top 22
abbrev N_l_parts : List Str := ["_law_tree", "_law_word", "_law_pair"]
theorem sc_l_parts : FnScope N_l_parts ["_law_tree"] (defScope s_l_parts) := ⟨rfl, rfl, rfl, by decide +kernel, rfl, by decide +kernel, by decide +kernel⟩
theorem ok_l_parts (T : Txt mg) (D : At K mg "_law_parts" s_l_parts ["_law_tree"]) : Cl P w K mg base 1 "_law_parts" (spPartsL K) := by
  refine cl_of D sc_l_parts (fun vs H Q E h => ?_) fun f cdv A outer s H vs Q E hr h => ?_
  · obtain ⟨v, h, ds, rfl, _⟩ := h
    rfl
  · obtain ⟨v, h, ds, rfl, hd, o, fl, hlen, k⟩ := h
    obtain ⟨a, its, rfl, hs, hx⟩ := view hd
    refine ⟨_, (pss_cons (ps_set (i := 1) sc_l_parts.nd rfl (Or.inl rfl) (pe_ix ix_tup (pv 0) pe_int (fun _ _ => rfl)))
      (pss_cons (ps_if (pt_inW (pv 1) (.cons (.cons (.cons (.cons (.cons (.cons .nil)))))) (show 6 ≤ sizeLine by decide) (by rfl))
        (pss_one (ps_ret (pe_lst pa_nil)))
        pss_nil)
      (pss_cons (ps_if (pt_inW (pv 1) (.cons (.cons (.cons (.cons (.cons .nil))))) (show 5 ≤ sizeLine by decide) (by rfl))
        (pss_one (ps_ret (pe_lst (pa_cons (pe_ix ix_tup (pv 0) pe_int (fun _ _ => rfl)) pa_nil))))
        pss_nil)
      (pss_cons (ps_if (pt_inW (pv 1) (.cons (.cons .nil)) (show 2 ≤ sizeLine by decide) (by rfl))
        (pss_one (ps_ret (pe_op op_cat (pe_lc (own := [("_law_pair", 2)]) rfl sc_l_parts.nd (pi_tup (pe_ix ix_tup (pv 0) pe_int (fun _ _ => rfl))) (blkOk_by (N := N_l_parts) (sc := defScope s_l_parts) (by decide +kernel))
      (fun _ _ _ _ _ => (pg_name (i := 2) sc_l_parts.nd rfl (Or.inl rfl)))
      (fun _ _ _ _ _ => pts_nil)
      (fun _ _ _ _ _ => (pe_ix (kx_tup (K := K)) (pv 2) pe_int (fun _ _ => rfl)))) (pe_lst (pa_cons (pe_ix ix_tup (pv 0) pe_int (fun _ _ => rfl)) pa_nil)))))
        pss_nil)
      (pss_cons (ps_if (pt_cmpR op_eq (pv 1) pe_str (nomark _))
        (pss_one (ps_ret (pe_callTy call_list_of (by rfl) T.list (by decide +kernel) (pa_cons (pe_ix ix_tup (pv 0) pe_int (fun _ _ => rfl)) pa_nil))))
        pss_nil)
      (pss_cons (ps_if (pt_cmpR op_eq (pv 1) pe_str (nomark _))
        (pss_one (ps_ret (pe_op op_cat (pe_lst (pa_cons (pe_ix ix_tup (pv 0) pe_int (fun _ _ => rfl)) pa_nil)) (pe_callTy call_list_of (by rfl) T.list (by decide +kernel) (pa_cons (pe_ix ix_tup (pv 0) pe_int (fun _ _ => rfl)) pa_nil)))))
        pss_nil)
      (pss_cons (ps_if (pt_cmpR op_eq (pv 1) pe_str (nomark _))
        (pss_one (ps_ret (pe_callTy call_list_of (by rfl) T.list (by decide +kernel) (pa_cons (pe_ix ix_tup (pv 0) pe_int (fun _ _ => rfl)) pa_nil))))
        pss_nil)
      (pss_one (ps_ret (pe_callTy call_list_of (by rfl) T.list (by decide +kernel) (pa_cons (pe_slice sl_tupA (pv 0) (po_some pe_int) po_none) pa_nil))))))))))), ?_⟩
    have hhd := hx.head
    refine ⟨_, rfl, a, its, _, _, rfl, rfl, hs, hhd, ?_⟩
    refine ⟨_, rfl, rfl, fun H0 s0 => ?_⟩
    rw [in_L o]
    cases eL : kL h with
    | true =>
      refine iteT ⟨by show 0 ≤ sizeLine; decide, fun l hl => ?_⟩
      have e0 : ds = [] := by
        cases h with
        | num i => exact List.length_eq_zero_iff.mp o
        | name i => exact List.length_eq_zero_iff.mp o.1
        | lit i => exact List.length_eq_zero_iff.mp o.1
        | _ => cases eL
      subst e0
      exact k l [] _ (s0.trans (same_new hl)) (free_of s0 hl) upd_same .nil
    | false =>
    refine iteF ?_
    refine ⟨_, rfl, rfl, fun H1 s01 => ?_⟩
    have s1 := s0.trans s01
    rw [in_F o]
    cases eF : kF h with
    | true =>
      refine iteT ?_
      have hx1 := hx.same s1
      have hs1 := sqt_same s1 hs
      obtain ⟨v2, d, rfl, e2, hv2⟩ : ∃ v2 d, ds = [d] ∧ atI its 2 = some v2 ∧ Dp K H1 v2 d := by
        cases h with
        | fn xs =>
          obtain ⟨d, rfl⟩ := one_of o.1
          obtain ⟨q, vs, rfl, _, hv⟩ := hx1
          obtain ⟨v, rfl, hv'⟩ := dpAll_one hv
          exact ⟨v, d, rfl, atI_nat (j := 2) rfl, hv'⟩
        | one w x =>
          obtain ⟨d, rfl⟩ := one_of o.1
          obtain ⟨vs, rfl, hv⟩ := hx1
          obtain ⟨v, rfl, hv'⟩ := dpAll_one hv
          exact ⟨v, d, rfl, atI_nat (j := 2) rfl, hv'⟩
        | _ => cases eF
      refine ⟨_, rfl, a, _, _, _, rfl, rfl, hs1, e2, by show 1 ≤ sizeLine; decide, fun q hq => ?_⟩
      exact k q _ _ (s1.trans (same_new hq)) (free_of s1 hq) upd_same (.cons (dp_same (same_new hq) _ _ hv2) .nil)
    | false =>
      refine iteF ?_
      refine ⟨_, rfl, rfl, fun H2 s2 => ?_⟩
      have S2 := s1.trans s2
      rw [in_B o]
      cases eB : kB h with
      | true =>
        refine iteT ?_
        have hx2 := hx.same S2
        have hs2 := sqt_same S2 hs
        cases h with
        | bind w xs =>
          obtain ⟨q, rows, vs, rfl, hq, hrows, hv⟩ := hx2
          have hdl : ds.length = xs.length + 1 := o.1
          have hrl : rows.length = xs.length := by
            have := DpAll.len hrows
            rw [List.length_map, List.length_zip] at this
            omega
          refine ⟨_, rfl, a, _, _, _, rfl, rfl, hs2, atI_nat (j := 1) rfl, q, rfl, ⟨_, hq⟩, fun L hL => ?_⟩
          refine lc_data (K := K) (walk_tup (xs := rows)) (fun i => ((ds.take xs.length)[i]?).map id) hL (by omega) (fun H' s => sqt_same s hq) (fun i _ d e => ?_) ?_ ?_
          · obtain ⟨d', e', rfl⟩ := Option.map_eq_some_iff.mp e
            exact flatDs_all fl _ (List.mem_of_mem_take (List.mem_of_getElem? e'))
          · rintro i x H3 H4 hi s3 ⟨rfl, e2⟩ Q1 Q0 q1 q0
            obtain ⟨d, g1, g2⟩ := DpAll.atV hrows e2
            obtain ⟨p, ep, rfl⟩ := map_at g1
            obtain ⟨r, its3, rfl, hr3, hi3⟩ := dp_tup (dp_same s3 _ _ g2)
            cases hi3 with
            | cons h1 h2 =>
              obtain ⟨v, rfl, h3⟩ := dpAll_one h2
              refine ⟨rfl, ?_⟩
              refine ⟨_, rfl, r, _, _, _, rfl, rfl, hr3, atI_nat (j := 1) rfl, q1 _ _ p.2 ?_ (Same.refl _) h3⟩
              have := List.getElem?_zip_eq_some.mp ep
              rw [List.getElem?_take_of_lt (by omega), this.2]
              rfl
          · intro H3 acc s3 hacc ha3
            rw [show rows.length = (ds.take xs.length).length by rw [List.length_take]; omega, range_map, List.map_id] at ha3
            obtain ⟨dl, edl⟩ := one_of (show (ds.drop xs.length).length = 1 by rw [List.length_drop]; omega)
            rw [edl] at hv
            obtain ⟨vl, rfl, hvl⟩ := dpAll_one hv
            refine ⟨_, rfl, a, _, _, _, rfl, rfl, sqt_same s3 hs2, atI_nat (j := 2) rfl, by show 1 ≤ sizeLine; decide, fun t5 ht5 => ?_⟩
            have s5 := same_new (o := .lst [vl]) ht5
            have hl3 := DpAll.len ha3
            rw [List.length_take] at hl3
            refine ⟨L, t5, acc, [vl], rfl, rfl, s5 _ _ hacc, upd_same, Nat.le_trans (show acc.length + 1 ≤ 200 by omega) (by decide), fun t6 ht6 => ?_⟩
            have s6 := same_new (o := .lst (acc ++ [vl])) ht6
            refine k t6 _ _ ((S2.trans s3).trans (s5.trans s6)) (free_of ((S2.trans s3).trans s5) ht6) upd_same ?_
            have h7 : DpAll K _ (acc ++ [vl]) (ds.take xs.length ++ [dl]) := DpAll.app (dps_same (s5.trans s6) _ _ ha3) (.cons (dp_same (s3.trans (s5.trans s6)) _ _ hvl) .nil)
            rw [← edl, List.take_append_drop] at h7
            exact h7
        | _ => cases eB
      | false =>
        refine iteF ?_
        refine ⟨_, rfl, rfl, _, rfl, ?_⟩
        rw [eq_do o]
        cases eD : isDo h with
        | true =>
          refine iteT ?_
          have hx2 := hx.same S2
          cases h with
          | doo =>
            obtain ⟨q, vs, rfl, hq, hv⟩ := hx2
            refine ⟨_, rfl, a, _, _, _, rfl, rfl, sqt_same S2 hs, atI_nat (j := 1) rfl, q, _, rfl, .inr hq, fun l hl => ?_⟩
            exact k l vs _ (S2.trans (same_new hl)) (free_of S2 hl) upd_same (dps_same (same_new hl) _ _ hv)
          | _ => cases eD
        | false =>
          refine iteF ?_
          refine ⟨_, rfl, rfl, _, rfl, ?_⟩
          rw [eq_call o]
          cases eC : isCall h with
          | true =>
            refine iteT ?_
            have hx2 := hx.same S2
            cases h with
            | call =>
              obtain ⟨q, us, vs, rfl, hu, hq, hv⟩ := hx2
              have hdl : 1 ≤ ds.length := o
              obtain ⟨d0, e0⟩ := one_of (show (ds.take 1).length = 1 by rw [List.length_take]; omega)
              rw [e0] at hu
              obtain ⟨u0, rfl, hu0⟩ := dpAll_one hu
              refine ⟨_, rfl, a, _, _, _, rfl, rfl, sqt_same S2 hs, atI_nat (j := 1) rfl, by show 1 ≤ sizeLine; decide, fun t3 ht3 => ?_⟩
              have s3 := same_new (o := .lst [u0]) ht3
              refine ⟨_, rfl, a, _, _, _, rfl, rfl, sqt_same (S2.trans s3) hs, atI_nat (j := 2) rfl, q, _, rfl, .inr (sqt_same s3 hq), fun t4 ht4 => ?_⟩
              have s4 := same_new (o := .lst vs) ht4
              have hvl := DpAll.len hv
              rw [List.length_drop] at hvl
              refine ⟨t3, t4, [u0], vs, rfl, rfl, s4 _ _ upd_same, upd_same, Nat.le_trans (show 1 + vs.length ≤ 200 by omega) (by decide), fun t5 ht5 => ?_⟩
              have s5 := same_new (o := .lst ([u0] ++ vs)) ht5
              have s35 := s3.trans (s4.trans s5)
              refine k t5 _ _ (S2.trans s35) (free_of (S2.trans (s3.trans s4)) ht5) upd_same ?_
              have h7 : DpAll K _ ([u0] ++ vs) ([d0] ++ ds.drop 1) := DpAll.app (.cons (dp_same s35 _ _ hu0) .nil) (dps_same s35 _ _ hv)
              rw [← e0, List.take_append_drop] at h7
              exact h7
            | _ => cases eC
          | false =>
            refine iteF ?_
            refine ⟨_, rfl, rfl, _, rfl, ?_⟩
            rw [eq_op o]
            cases eO : isOp h with
            | true =>
              refine iteT ?_
              have hx2 := hx.same S2
              cases h with
              | op o' =>
                obtain ⟨q, vs, rfl, hq, hv⟩ := hx2
                refine ⟨_, rfl, a, _, _, _, rfl, rfl, sqt_same S2 hs, atI_nat (j := 2) rfl, q, _, rfl, .inr hq, fun l hl => ?_⟩
                exact k l vs _ (S2.trans (same_new hl)) (free_of S2 hl) upd_same (dps_same (same_new hl) _ _ hv)
              | _ => cases eO
            | false =>
              refine iteF ?_
              have hx3 := hx.same S2
              cases h with
              | plain w =>
                obtain ⟨vs, rfl, hv⟩ := hx3
                refine ⟨_, rfl, 1, rfl, ?_⟩
                refine sl_from (k := 1) (sqt_same S2 hs) (by rw [List.length_cons]; omega) fun t4 H4 s4 ht4 => ?_
                refine ⟨t4, _, rfl, .inr ht4, fun l hl => ?_⟩
                exact k l vs _ ((S2.trans s4).trans (same_new hl)) (free_of (S2.trans s4) hl) upd_same (dps_same (s4.trans (same_new hl)) _ _ hv)
              | num i => cases eL
              | name i => cases eL
              | lit i => cases eL
              | one _ _ => cases eF
              | fn _ => cases eF
              | bind _ _ => cases eB
              | doo => cases eD
              | call => cases eC
              | op _ => cases eO
end
end K02

namespace K02
open PySem L2 Cm
theorem enc_mk (h : Hd) (ps : List Tr) : (Tr.mk h ps).enc = encH h (Tr.encL ps) := rfl
theorem ok_mk {h : Hd} {ps : List Tr} (o : (Tr.mk h ps).ok) : hok h ps.length ∧ ps.length ≤ 11 ∧ ∀ t ∈ ps, t.ok := by
  have o' : hok h ps.length ∧ ps.length ≤ 11 ∧ Tr.oks ps := o
  exact ⟨o'.1, o'.2.1, oks_iff.mp o'.2.2⟩
theorem encL_at {ps : List Tr} {i : Nat} {d : PyData} (h : (Tr.encL ps)[i]? = some d) : ∃ t, ps[i]? = some t ∧ d = t.enc := by
  rw [encL_map] at h
  exact map_at h
theorem encL_set (ps : List Tr) (i : Nat) (t : Tr) : Tr.encL (ps.set i t) = (Tr.encL ps).set i t.enc := by
  rw [encL_map, encL_map, List.map_set]
theorem ixn_at {n m : Nat} (h : m < n) : ixN n ((m : Nat) : Int) = some m := by
  unfold ixN
  have h1 : ((m : Nat) : Int) < (n : Int) := by omega
  simp [h1]
  try omega
theorem DpAll.set {K : PySem.W.Frag} {H : Hp} {v : V} {d : PyData} (h : Dp K H v d) : ∀ {vs : List V} {ds : List PyData} (i : Nat), DpAll K H vs ds → DpAll K H (vs.set i v) (ds.set i d)
  | _, _, _, .nil => .nil
  | _, _, 0, .cons _ b => .cons h b
  | _, _, i + 1, .cons a b => .cons a (DpAll.set h i b)
def spLeaf (K : PySem.W.Frag) : Sp := fun vs H Q _ => ∃ (h c nm : Addr) (names : List Str), vs = [.ref h, .ref nm] ∧ Hand H h c ∧ SqT K H nm (names.map V.str) ∧ names ≠ [] ∧ names.length ≤ 10 ∧ (∀ x ∈ names, sok x) ∧
  ∀ (v : V) (t : Tr) (H' : Hp), Kh h H H' → Hand H' h c → Dp K H' v t.enc → t.ok → t.dep ≤ 1 → t.size ≤ 1 → Q v H'
theorem ok_leaf {h : Hd} (o : hok h 0) : (Tr.mk h []).ok := ⟨o, Nat.zero_le _, trivial⟩
section
variable {P : Program} {w : World} {K : PySem.W.Frag} {mg : Str → Option Value} {base : Heap}
abbrev s_l_any_leaf : Stmt := top 18
abbrev N_l_any_leaf : List Str := ["_law_hand_here", "_law_names", "_law_pick_here", "_law_number"]
theorem sc_l_any_leaf : FnScope N_l_any_leaf ["_law_hand_here", "_law_names"] (defScope s_l_any_leaf) := ⟨rfl, rfl, rfl, by decide +kernel, rfl, by decide +kernel, by decide +kernel⟩
theorem ok_any_leaf (c_l_draw : Cl P w K mg base 2 "_law_draw" spDraw) (c_l_pick : Cl P w K mg base 3 "_law_pick" (spPick K)) (D : At K mg "_law_any_leaf" s_l_any_leaf ["_law_hand_here", "_law_names"]) :
    Cl P w K mg base 4 "_law_any_leaf" (spLeaf K) := by
  refine cl_of D sc_l_any_leaf (fun vs H Q E h => ?_) fun f cdv A outer s H vs Q E hr h => ?_
  · obtain ⟨h, c, nm, names, rfl, _⟩ := h
    rfl
  · obtain ⟨h, c, nm, names, rfl, hh, hn, hne, hnl, hso, k⟩ := h
    refine ⟨_, (pss_cons (ps_set (i := 2) sc_l_any_leaf.nd rfl (Or.inl rfl) (pe_c c_l_draw hr (by decide) (by rfl) (pa_cons (pv 0) (pa_cons pe_int pa_nil))))
      (pss_cons (ps_if (pt_cmpR op_lt (pv 2) pe_int (nomark _))
        (pss_one (ps_ret (pe_tup (pa_cons pe_str (pa_cons (pe_c c_l_pick hr (by decide) (by rfl) (pa_cons (pv 0) (pa_cons (pv 1) pa_nil))) pa_nil)))))
        pss_nil)
      (pss_cons (ps_if (pt_cmpR op_lt (pv 2) pe_int (nomark _))
        (pss_mid (ps_set (i := 3) sc_l_any_leaf.nd rfl (Or.inl rfl) (pe_ix ix_tup (pe_tup (pa_cons pe_int (pa_cons (pe_op op_pow pe_int pe_int) (pa_cons (pe_c c_l_draw hr (by decide) (by rfl) (pa_cons (pv 0) (pa_cons pe_int pa_nil))) (pa_cons (pe_c c_l_draw hr (by decide) (by rfl) (pa_cons (pv 0) (pa_cons (pe_op op_add (pe_op op_pow pe_int pe_int) pe_int) pa_nil))) pa_nil))))) (pe_c c_l_draw hr (by decide) (by rfl) (pa_cons (pv 0) (pa_cons pe_int pa_nil))) (fun _ _ => rfl)))
        (pss_one (ps_ret (pe_tup (pa_cons pe_str (pa_cons (pe_ifExp (pt_cmpR op_eq (pe_c c_l_draw hr (by decide) (by rfl) (pa_cons (pv 0) (pa_cons pe_int pa_nil))) pe_int (nomark _)) (pe_un un_neg (pv 3)) (pv 3)) pa_nil))))))
        pss_nil)
      (pss_one (ps_ret (pe_ix ix_tup (pe_ix ix_tup (pe_tup (pa_cons (pe_tup (pa_cons (pe_tup (pa_cons pe_str pa_nil)) (pa_cons (pe_tup (pa_cons pe_str pa_nil)) (pa_cons (pe_tup (pa_cons pe_str pa_nil)) pa_nil)))) (pa_cons (pe_tup (pa_cons (pe_tup (pa_cons pe_str pa_nil)) (pa_cons (pe_tup (pa_cons pe_str pa_nil)) (pa_cons (pe_tup (pa_cons pe_str pa_nil)) pa_nil)))) pa_nil))) (pe_c c_l_draw hr (by decide) (by rfl) (pa_cons (pv 0) (pa_cons pe_int pa_nil))) (fun _ _ => rfl)) (pe_op op_sub (pv 2) pe_int) (fun _ _ => rfl))))))), ?_⟩
    refine ⟨_, rfl, h, c, _, rfl, hh, by decide, by decide, fun n H1 n0 n1 k1 hh1 => ?_⟩
    refine ⟨_, rfl, _, _, rfl, rfl, _, rfl, ?_⟩
    refine ite2 (fun _ => ?_) (fun q3 => ?_)
    · refine ⟨_, rfl, _, rfl, h, c, nm, _, rfl, hh1, .inr (k1.tup hn), ?_, by rw [List.length_map]; omega, fun v H2 hv k2 hh2 => ?_⟩
      · intro e
        exact hne (List.map_eq_nil_iff.mp e)
      obtain ⟨x, hx, rfl⟩ := List.mem_map.mp hv
      refine ⟨by show 2 ≤ sizeLine; decide, fun t ht => ?_⟩
      have s3 := same_new (o := .tup [.str "name", .str x]) ht
      exact k _ (.mk (.name x) []) _ ((k1.trans k2).trans (hh2.kh s3)) (hh2.same s3) (unview (ds := []) (h := .name x) (.inl (.inl upd_same)) rfl) (ok_leaf ⟨rfl, hso x hx⟩) (Nat.le_refl _) (Nat.le_refl _)
    refine ⟨_, rfl, _, _, rfl, rfl, _, rfl, ?_⟩
    refine ite2 (fun _ => ?_) (fun q6 => ?_)
    · refine ⟨fun σ' H' => ∃ m : Int, σ' = [some (.ref h), some (.ref nm), some (.int n), some (.int m)] ∧ Kh h H H' ∧ Hand H' h c, ?_, ?_⟩
      · refine ⟨_, _, rfl, rfl, ⟨by decide, by decide, by decide⟩, ?_⟩
        refine ⟨_, rfl, h, c, _, rfl, hh1, by decide, by decide, fun a2 H2 _ _ k2 hh2 => ?_⟩
        refine ⟨_, rfl, _, _, rfl, rfl, ⟨by decide, by decide, by decide⟩, _, _, rfl, rfl, h, c, _, rfl, hh2, by decide, by decide, fun a3 H3 _ _ k3 hh3 => ?_⟩
        refine ⟨by show 4 ≤ sizeLine; decide, fun t ht => ?_⟩
        have s4 := same_new (o := .tup [.int 0, .int ((10 : Int) ^ (9 : Int).toNat), .int a2, .int a3]) ht
        refine ⟨_, rfl, h, c, _, rfl, hh3.same s4, by decide, by decide, fun j H5 j0 j1 k5 hh5 => ?_⟩
        have hall : ∃ m : Int, atI [V.int 0, V.int ((10 : Int) ^ (9 : Int).toNat), .int a2, .int a3] j = some (.int m) := by
          have : j = 0 ∨ j = 1 ∨ j = 2 ∨ j = 3 := by omega
          rcases this with rfl | rfl | rfl | rfl
          · exact ⟨_, atI_nat (j := 0) rfl⟩
          · exact ⟨_, atI_nat (j := 1) rfl⟩
          · exact ⟨_, atI_nat (j := 2) rfl⟩
          · exact ⟨_, atI_nat (j := 3) rfl⟩
        obtain ⟨m, em⟩ := hall
        exact ⟨t, _, _, _, rfl, rfl, k5.tup (.inl (.inl upd_same)), em, m, rfl, (((k1.trans k2).trans k3).trans (hh3.kh s4)).trans k5, hh5⟩
      · rintro σ' H2 ⟨m, rfl, k2, hh2⟩
        refine ⟨_, rfl, h, c, _, rfl, hh2, by decide, by decide, fun j H3 _ _ k3 hh3 => ?_⟩
        refine ⟨rfl, _, rfl, ?_⟩
        have fin : ∀ i : Int, 2 ≤ sizeLine ∧ ∀ p, H3 p = none → Q (.ref p) (upd H3 p (.tup [.str "number", .int i])) := fun i => ⟨by decide, fun t ht => (by
          have s4 := same_new (o := .tup [.str "number", .int i]) ht
          exact k _ (.mk (.num i) []) _ ((k2.trans k3).trans (hh3.kh s4)) (hh3.same s4) (unview (ds := []) (h := .num i) (.inl (.inl upd_same)) rfl) (ok_leaf rfl) (Nat.le_refl _) (Nat.le_refl _))⟩
        refine ite2 (fun _ => ?_) (fun _ => ?_)
        · exact ⟨_, rfl, _, rfl, fin _⟩
        · exact ⟨_, rfl, fin _⟩
    · have c3 : (n = 6 ∨ n = 7 ∨ n = 8) := by
        have : ¬ n < 6 := fun z => q6 (decide_eq_true z)
        omega
      refine ⟨by show 1 ≤ sizeLine; decide, fun t1 ht1 => ⟨by show 1 ≤ sizeLine; decide, fun t2 ht2 => ⟨by show 1 ≤ sizeLine; decide, fun t3 ht3 => ⟨by show 3 ≤ sizeLine; decide, fun t4 ht4 =>
        ⟨by show 1 ≤ sizeLine; decide, fun t5 ht5 => ⟨by show 1 ≤ sizeLine; decide, fun t6 ht6 => ⟨by show 1 ≤ sizeLine; decide, fun t7 ht7 => ⟨by show 3 ≤ sizeLine; decide, fun t8 ht8 => ⟨by show 2 ≤ sizeLine; decide, fun t9 ht9 => ?_⟩⟩⟩⟩⟩⟩⟩⟩⟩
      have u1 := same_new (o := .tup [.str "true"]) ht1
      have u2 := same_new (o := .tup [.str "false"]) ht2
      have u3 := same_new (o := .tup [.str "none"]) ht3
      have u4 := same_new (o := .tup [.ref t1, .ref t2, .ref t3]) ht4
      have u5 := same_new (o := .tup [.str "ask"]) ht5
      have u6 := same_new (o := .tup [.str "none"]) ht6
      have u7 := same_new (o := .tup [.str "true"]) ht7
      have u8 := same_new (o := .tup [.ref t5, .ref t6, .ref t7]) ht8
      have u9 := same_new (o := .tup [.ref t4, .ref t8]) ht9
      have v8 := u9
      have v7 := u8.trans v8
      have v6 := u7.trans v7
      have v5 := u6.trans v6
      have v4 := u5.trans v5
      have v3 := u4.trans v4
      have v2 := u3.trans v3
      have v1 := u2.trans v2
      have S9 := u1.trans v1
      have e1 := v1 _ _ upd_same
      have e2 := v2 _ _ upd_same
      have e3 := v3 _ _ upd_same
      have e4 := v4 _ _ upd_same
      have e5 := v5 _ _ upd_same
      have e6 := v6 _ _ upd_same
      have e7 := v7 _ _ upd_same
      have e8 := v8 _ _ upd_same
      have hh9 := hh1.same S9
      have k9 := k1.trans (hh1.kh S9)
      have e9 : (upd _ t9 (.tup [.ref t4, .ref t8])) t9 = some (.tup [.ref t4, .ref t8]) := upd_same (H := upd (upd (upd (upd (upd (upd (upd (upd H1 t1 (.tup [.str "true"])) t2 (.tup [.str "false"])) t3 (.tup [.str "none"])) t4 (.tup [.ref t1, .ref t2, .ref t3])) t5 (.tup [.str "ask"])) t6 (.tup [.str "none"])) t7 (.tup [.str "true"])) t8 (.tup [.ref t5, .ref t6, .ref t7]))
      clear u1 u2 u3 u4 u5 u6 u7 u8 u9 v1 v2 v3 v4 v5 v6 v7 v8 S9
      generalize upd (upd (upd (upd (upd (upd (upd (upd (upd H1 t1 (.tup [.str "true"])) t2 (.tup [.str "false"])) t3 (.tup [.str "none"])) t4 (.tup [.ref t1, .ref t2, .ref t3])) t5 (.tup [.str "ask"])) t6 (.tup [.str "none"])) t7 (.tup [.str "true"])) t8 (.tup [.ref t5, .ref t6, .ref t7])) t9 (.tup [.ref t4, .ref t8]) = H9 at *
      refine ⟨_, rfl, h, c, _, rfl, hh9, by decide, by decide, fun j HA j0 j1 kA hhA => ?_⟩
      have tp : ∀ {a : Addr} {xs : List V}, H9 a = some (.tup xs) → SqT K HA a xs := fun e => kA.tup (.inl (.inl e))
      have fin : ∀ (a : Addr) (w : Str), SqT K HA a [.str w] → w ∈ litW → Q (.ref a) HA := fun a w hs hw =>
        k _ (.mk (.lit w) []) _ (k9.trans kA) hhA (unview (ds := []) (h := .lit w) hs rfl) (ok_leaf ⟨rfl, hw⟩) (Nat.le_refl _) (Nat.le_refl _)
      have hj : j = 0 ∨ j = 1 := by omega
      rcases hj with rfl | rfl
      · refine ⟨t9, _, _, _, rfl, rfl, tp e9, atI_nat (j := 0) rfl, _, rfl, _, _, rfl, rfl, ?_⟩
        rcases c3 with rfl | rfl | rfl
        · exact ⟨t4, _, _, _, rfl, rfl, tp e4, atI_nat (j := 0) rfl, fin t1 _ (tp e1) (by decide +kernel)⟩
        · exact ⟨t4, _, _, _, rfl, rfl, tp e4, atI_nat (j := 1) rfl, fin t2 _ (tp e2) (by decide +kernel)⟩
        · exact ⟨t4, _, _, _, rfl, rfl, tp e4, atI_nat (j := 2) rfl, fin t3 _ (tp e3) (by decide +kernel)⟩
      · refine ⟨t9, _, _, _, rfl, rfl, tp e9, atI_nat (j := 1) rfl, _, rfl, _, _, rfl, rfl, ?_⟩
        rcases c3 with rfl | rfl | rfl
        · exact ⟨t8, _, _, _, rfl, rfl, tp e8, atI_nat (j := 0) rfl, fin t5 _ (tp e5) (by decide +kernel)⟩
        · exact ⟨t8, _, _, _, rfl, rfl, tp e8, atI_nat (j := 1) rfl, fin t6 _ (tp e6) (by decide +kernel)⟩
        · exact ⟨t8, _, _, _, rfl, rfl, tp e8, atI_nat (j := 2) rfl, fin t7 _ (tp e7) (by decide +kernel)⟩
end
end K02

/-! a comprehension that draws, with a word on what was made so far -/
namespace Cm
open PySem L2 PySem.Spec PyProof.Rows
theorem lc_drawJ {K : PySem.W.Frag} {M : Addr → Prop} {I : It} {n : Nat} {G : Hp → Prop} {Y : Nat → Hp → V → Hp → Prop} (wk : Walk I n G Y) {g : TG} {tt : TT} {te : TE} {vs : List Nat} {σ : L2.St} {H1 : Hp} {D : Addr} {Qd : Hp → Prop}
    (J : Nat → List PyData → Hp → Prop) (hM : ∀ a, M a → ∃ xs, H1 a = some (.lst xs)) (h0 : J 0 [] (upd H1 D (.lst []))) (hJ : ∀ i ds H ys, Kp M H1 H → J i ds H → J i ds (upd H D (.lst ys)))
    (hD : H1 D = Option.none) (hn : n ≤ 100000) (hG : ∀ i ds H, Kp M H1 H → J i ds H → G H) (hfl : ∀ i ds H, J i ds H → flatDs ds = true)
    (hs : ∀ i x ds H H', i < n → Kp M H1 H → J i ds H → Y i H x H' → ∀ (Q1 : VK) (Q0 : Hp → Prop), (∀ v H4 d, Kp M H H4 → J (i + 1) (ds ++ [d]) H4 → Dp K H4 v d → Q1 v H4) → (∀ H3, Kp M H H3 → J (i + 1) ds H3 → Q0 H3) →
      g x (wipe σ vs) H' fun σ2 H2 => wipe σ2 vs = wipe σ vs ∧ tt σ2 H2 fun b H3 => if b = true then te σ2 H3 Q1 else Q0 H3)
    (hd : ∀ H acc ds, Kp M H1 H → J n ds H → H D = some (.lst acc) → DpAll K H acc ds → Qd H) :
    ∃ W : Nat → Nat → Hp → Prop, (∃ m, W 0 m (upd H1 D (.lst []))) ∧ ∀ i m H, W i m H →
      (I.stop i H ∧ Qd H) ∨ (I.go i H ∧ ∃ Nx : Hp → Prop, (∀ H', Nx H' → ∃ m', m' < m ∧ W (i + 1) m' H') ∧ ∀ x H', I.yld i H x H' → g x (wipe σ vs) H' fun σ2 H2 => wipe σ2 vs = wipe σ vs ∧ tt σ2 H2 fun b H3 =>
        if b = true then te σ2 H3 fun y H4 => ∃ acc, H4 D = some (.lst acc) ∧ acc.length < sizeLine ∧ Nx (upd H4 D (.lst (acc ++ [y]))) else Nx H3) := by
  have nM : ¬ M D := fun m => by
    obtain ⟨xs, e⟩ := hM D m
    rw [hD] at e
    cases e
  refine lc_it wk (fun i H => ∃ acc ds, Kp M H1 H ∧ J i ds H ∧ H D = some (.lst acc) ∧ DpAll K H acc ds ∧ acc.length ≤ i) ⟨[], [], Kp.new hM hD, h0, upd_same, .nil, Nat.le_refl _⟩ (fun i H _ z => ?_) ?_ ?_
  · obtain ⟨acc, ds, s, j, _⟩ := z
    exact hG i ds H s j
  · rintro i x H H' hi ⟨acc, ds, s, j, hacc, ha, hl⟩ y
    refine hs i x ds H H' hi s j y _ _ (fun v H4 d s4 j4 hv => ?_) (fun H3 s3 j3 => ?_)
    · have hD4 := s4.st _ _ nM hacc
      have f4 := hfl _ _ _ j4
      have f1 : flatDs ds = true := hfl _ _ _ j
      have f2 : flatD d = true := flatDs_all f4 d (List.mem_append_right _ (List.mem_singleton.mpr rfl))
      refine ⟨acc, hD4, Nat.lt_of_le_of_lt hl (Nat.lt_of_lt_of_le (show i < 100000 by omega) (by decide)), acc ++ [v], ds ++ [d], (s.trans s4).mut hD, hJ _ _ _ _ (s.trans s4) j4, upd_same, ?_, by rw [List.length_append]; exact Nat.succ_le_succ hl⟩
      exact DpAll.snoc (dp_keep (fun _ _ q => sqt_put hD4 q) _ _ f2 hv) (dps_keep (fun _ _ q => sqt_put hD4 q) _ _ f1 (dps_keep (fun _ _ q => s4.tup q) _ _ f1 ha))
    · exact ⟨acc, ds, s.trans s3, j3, s3.st _ _ nM hacc, dps_keep (fun _ _ q => s3.tup q) _ _ (hfl _ _ _ j) ha, by omega⟩
  · rintro H ⟨acc, ds, s, j, hacc, ha, _⟩
    exact hd H acc ds s j hacc ha
/-- a built-in method with arguments, where K is said -/
theorem ke_bm {X : Cx} {K : PySem.W.Frag} {T : String} {name : Str} {id : String} {r : V → List V → Hp → VK → Prop} {o e : Expr} {es : List Expr} {to : TE} {t : TA} {apos cpos : Pos} (pa : PlainAttrs T) (slot : Slot T name id)
    (hty : typeOf (.builtin id) = pure (.type "method_descriptor")) (hm : MtR X id r) (ho : PE X o to) (ha : PA X (e :: es) t) (hK : X.K = K := by rfl) (b1 : attributeBase o name X.env (eval o X.env) = eval o X.env := by rfl)
    (b2 : ((backTo cpos (starEach (e :: es) X.env)).all (fun x => !x.1) && (backToKw cpos (keywordEach [] X.env)).all (fun x => x.1.isSome) && decide ((e :: es).length + ([] : List Keyword).length + (if ([] : List Keyword).isEmpty then 0 else 1) < 30)) = true := by rfl)
    (b3 : (apos.endLine == cpos.line) = true := by rfl) (b4 : starEach (e :: es) X.env = (false, eval e X.env) :: starEach es X.env := by rfl) (b5 : (backTo cpos (starEach es X.env)).any (·.1) = false := by rfl) :
    PE X (.Call (.Attribute o name apos) (e :: es) [] cpos) (tBM K T r to t) := by
  subst hK
  exact pe_bm pa slot hty hm ho ha b1 b2 b3 b4 b5
end Cm

namespace K02
open PySem L2 Cm
def spNames (K : PySem.W.Frag) : Sp := fun vs H Q _ => ∃ (h c nm : Addr) (names : List Str) (most : Int), vs = [.ref h, .ref nm, .int most] ∧ Hand H h c ∧ SqT K H nm (names.map V.str) ∧ names.length ≤ 10 ∧ 0 ≤ most ∧ most ≤ 20 ∧
  ∀ (r : Addr) (xs : List Str) (H' : Hp), Kh h H H' → Hand H' h c → SqT K H' r (xs.map V.str) → (xs.length : Int) ≤ most → (∀ x ∈ xs, x ∈ names) → Q (.ref r) H'
theorem map_erase {α β : Type} (f : α → β) : ∀ (xs : List α) (j : Nat), (xs.map f).eraseIdx j = (xs.eraseIdx j).map f
  | [], _ => rfl
  | _ :: _, 0 => rfl
  | x :: xs, j + 1 => by
    show f x :: (xs.map f).eraseIdx j = f x :: (xs.eraseIdx j).map f
    rw [map_erase f xs j]
theorem all_strs {K : PySem.W.Frag} {H : Hp} {P : Str → Prop} : ∀ {acc : List V} {ds : List PyData}, DpAll K H acc ds → (∀ d ∈ ds, ∃ x : Str, d = .str x ∧ P x) → ∃ xs : List Str, acc = xs.map V.str ∧ ds = xs.map PyData.str ∧ ∀ x ∈ xs, P x
  | _, _, .nil, _ => ⟨[], rfl, rfl, fun _ h => by cases h⟩
  | _, _, .cons a t, g => by
    obtain ⟨b, rfl, hb⟩ := g _ List.mem_cons_self
    obtain ⟨xs, rfl, rfl, hf⟩ := all_strs t fun d hd => g d (List.mem_cons_of_mem _ hd)
    cases a
    exact ⟨b :: xs, rfl, rfl, fun x hx => by
      rcases List.mem_cons.mp hx with rfl | hx
      · exact hb
      · exact hf x hx⟩
section
variable {P : Program} {w : World} {K : PySem.W.Frag} {mg : Str → Option Value} {base : Heap}
abbrev s_l_any_names : Stmt := top 19
abbrev N_l_any_names : List Str := ["_law_hand_here", "_law_names", "_law_most", "_law_left", "_law_name", "_law_many", "_law_k"]
theorem sc_l_any_names : FnScope N_l_any_names ["_law_hand_here", "_law_names", "_law_most"] (defScope s_l_any_names) := ⟨rfl, rfl, rfl, by decide +kernel, rfl, by decide +kernel, by decide +kernel⟩
theorem ok_any_names (T : Txt mg) (c_l_draw : Cl P w K mg base 2 "_law_draw" spDraw) (D : At K mg "_law_any_names" s_l_any_names ["_law_hand_here", "_law_names", "_law_most"]) : Cl P w K mg base 3 "_law_any_names" (spNames K) := by
  refine cl_of D sc_l_any_names (fun vs H Q E h => ?_) fun f cdv A outer s H vs Q E hr h => ?_
  · obtain ⟨h, c, nm, names, most, rfl, _⟩ := h
    rfl
  · obtain ⟨h, c, nm, names, most, rfl, hh, hn, hnl, hm0, hm1, k⟩ := h
    refine ⟨_, (pss_cons (ps_set (i := 3) sc_l_any_names.nd rfl (Or.inr rfl) (pe_lst pa_nil))
      (pss_cons (ps_for PassesOwn.never rfl (pi_tup (pv 1)) (pg_name (i := 4) sc_l_any_names.nd rfl (Or.inl rfl))
        (pss_one (ps_if (pt_cmpR op_notIn_seq (pv 4) (pv 3) (by rfl))
          (pss_one (ps_expr (pe_bm PySem.F.plainAttrs_list PySem.F.slot_list_append PySem.F.type_list_append mt_append (pv 3) (pa_cons (pv 4) pa_nil))))
          pss_nil)))
      (pss_cons (ps_set (i := 5) sc_l_any_names.nd rfl (Or.inl rfl) (pe_callB (call_min2 rfl) (by rfl) T.min (by decide +kernel) (pa_cons (pe_c c_l_draw hr (by decide) (by rfl) (pa_cons (pv 0) (pa_cons (pe_op op_add (pv 2) pe_int) pa_nil))) (pa_cons (pe_callB call_len_seq (by rfl) T.len (by decide +kernel) (pa_cons (pv 3) pa_nil)) pa_nil))))
      (pss_one (ps_ret (pe_tupleOf (by rfl) T.tuple (pe_lc (own := [("_law_k", 6)]) rfl sc_l_any_names.nd (pi_range1 (by rfl) T.range (pa_cons (pv 5) pa_nil)) (blkOk_by (N := N_l_any_names) (sc := defScope s_l_any_names) (by decide +kernel))
      (fun _ _ _ _ _ => (pg_name (i := 6) sc_l_any_names.nd rfl (Or.inl rfl)))
      (fun _ _ _ _ _ => pts_nil)
      (fun _ _ _ _ _ => (ke_bm (K := K) PySem.F.plainAttrs_list PySem.F.slot_list_pop PySem.F.type_list_pop mt_popAt (pv 3) (pa_cons (pe_c c_l_draw hr (by decide) (by rfl) (pa_cons (pv 0) (pa_cons (pe_callB (kc_len (K := K)) (by rfl) T.len (by decide +kernel) (pa_cons (pv 3) pa_nil)) pa_nil))) pa_nil)))))))))), ?_⟩
    refine ⟨by show 0 ≤ sizeLine; decide, fun L hL => ?_⟩
    have s0 := same_new (o := .lst []) hL
    have hh0 := hh.same s0
    have nL := hh.there hL
    refine ⟨_, rfl, nm, rfl, ⟨_, sqt_same s0 hn⟩, ?_⟩
    refine for_it (walk_tup (xs := names.map V.str)) (fun i σ H' => ∃ (ls : List Str) (v4 : Option V), σ = [some (.ref h), some (.ref nm), some (.int most), some (.ref L), v4, none, none] ∧ Same H H' ∧ H' L = some (.lst (ls.map V.str)) ∧ (∀ x ∈ ls, x ∈ names) ∧ ls.length ≤ i)
      ⟨[], none, rfl, s0, upd_same, fun _ h => (by cases h), Nat.le_refl _⟩ (fun i σ H' _ z => ?_) ?_ ?_
    · obtain ⟨_, _, _, z, _⟩ := z
      exact sqt_same z hn
    · rintro i x σ H1 H2 hi ⟨ls, v4, rfl, s1, hL1, hls, hll⟩ ⟨rfl, e2⟩
      obtain ⟨y, ey, rfl⟩ := map_at e2
      rw [List.length_map] at hi
      refine ⟨_, rfl, _, rfl, L, _, rfl, .inl (.inl (.inl hL1)), rfl, flat_strV ls, _, rfl, ?_⟩
      refine ite2 (fun _ => ?_) (fun _ => ⟨ls, _, rfl, s1, hL1, hls, by omega⟩)
      refine ⟨_, rfl, .inl ⟨rfl, _, .inl (.inl hL1)⟩, _, rfl, L, _, _, rfl, rfl, hL1, ?_, ls ++ [y], _, rfl, same_put s1 hL, ?_, ?_, ?_⟩
      · rw [List.length_map]
        exact Nat.lt_of_le_of_lt (show ls.length ≤ 10 by omega) (by decide)
      · rw [upd_same, List.map_append]
        rfl
      · intro x hx
        rcases List.mem_append.mp hx with hx | hx
        · exact hls x hx
        · cases List.mem_singleton.mp hx
          exact List.mem_of_getElem? ey
      · rw [List.length_append]
        exact Nat.succ_le_succ hll
    · rintro σ H1 ⟨ls, v4, rfl, s1, hL1, hls, hll⟩
      rw [List.length_map] at hll
      have hh1 := hh.same s1
      refine ⟨_, rfl, _, rfl, _, _, rfl, rfl, h, c, _, rfl, hh1, by omega, Int.lt_of_le_of_lt (show most + 1 ≤ 21 by omega) (by decide), fun m H2 m0 m1 k2 hh2 => ?_⟩
      have hL2 : H2 L = some (.lst (ls.map V.str)) := k2.st _ _ nL.1 hL1
      refine ⟨_, rfl, L, _, rfl, .inl (.inl (.inl hL2)), _, _, rfl, ?_⟩
      rw [List.length_map]
      show gName 5 (V.int (if ((ls.length : Nat) : Int) < m then ((ls.length : Nat) : Int) else m)) _ _ _
      have hmm : ∃ mm : Nat, (if ((ls.length : Nat) : Int) < m then ((ls.length : Nat) : Int) else m) = (mm : Int) ∧ mm ≤ ls.length ∧ (mm : Int) ≤ most := by
        split
        · exact ⟨ls.length, rfl, Nat.le_refl _, by omega⟩
        · exact ⟨m.toNat, by omega, by omega, by omega⟩
      obtain ⟨mm, em, h1, h2⟩ := hmm
      rw [em]
      refine ⟨_, rfl, _, rfl, by omega, by omega, fun D hD => ?_⟩
      have nD := hh2.there hD
      have nDL : L ≠ D := ne_of_none hL2 hD
      have K2 : Kp (fun a => a = h ∨ a = L) H2 H2 := Kp.refl fun a ha => by
        rcases ha with rfl | rfl
        · exact hh2.lst
        · exact ⟨_, hL2⟩
      refine lc_drawJ (K := K) (M := fun a => a = h ∨ a = L) (walk_range (lo := 0) (n := mm)) (fun i ds H' => Hand H' h c ∧ ∃ ls' : List Str, H' L = some (.lst (ls'.map V.str)) ∧ (∀ x ∈ ls', x ∈ names) ∧ ls'.length + i = ls.length ∧ ds.length = i ∧ ∀ d ∈ ds, ∃ x : Str, d = .str x ∧ x ∈ names)
        K2.l1 ⟨hh2.same (same_new hD), ls, (same_new hD) _ _ hL2, hls, rfl, rfl, fun _ h => (by cases h)⟩ (fun i ds H' ys kk j => ?_) hD (by omega) (fun _ _ _ _ _ => trivial) (fun i ds H' j => ?_) ?_ ?_
      · obtain ⟨a, ls', b1, b2, b3, b4, b5⟩ := j
        exact ⟨a.puts nD.1 nD.2, ls', by rw [upd_ne nDL]; exact b1, b2, b3, b4, b5⟩
      · obtain ⟨_, _, _, _, _, _, b5⟩ := j
        exact flatDs_of _ fun d hd => by
          obtain ⟨x, rfl, _⟩ := b5 d hd
          rfl
      · rintro i x ds H3 H4 hi k3 ⟨hh3, ls', hL3, b2, b3, b4, b5⟩ ⟨rfl, rfl⟩ Q1 Q0 q1 q0
        refine ⟨rfl, ?_⟩
        have hpos : 0 < ls'.length := by omega
        refine ⟨_, rfl, .inl ⟨rfl, _, .inl (.inl hL3)⟩, _, rfl, _, rfl, L, _, rfl, .inl (.inl (.inl hL3)), h, c, _, rfl, hh3, by rw [List.length_map]; omega, ?_, fun j H5 j0 j1 k5 hh5 => ?_⟩
        · rw [List.length_map]
          exact Int.lt_of_le_of_lt (show (ls'.length : Int) ≤ 10 by omega) (by decide)
        rw [List.length_map] at j1
        obtain ⟨jj, rfl⟩ : ∃ jj : Nat, j = (jj : Int) := ⟨j.toNat, by omega⟩
        have hjj : jj < ls'.length := by omega
        have hL5 : H5 L = some (.lst (ls'.map V.str)) := k5.st _ _ nL.1 hL3
        refine ⟨L, _, _, jj, .str ls'[jj], rfl, rfl, hL5, by omega, by omega, ?_, ?_, ?_⟩
        · rw [List.length_map]
          exact (ixN_seq (ixn_at hjj)).1
        · rw [List.getElem?_map, List.getElem?_eq_getElem hjj]
          rfl
        have kp : Kp (fun a => a = h ∨ a = L) H4 (upd H5 L (.lst ((ls'.map V.str).eraseIdx jj))) := by
          have w1 : Kp (fun a => a = h ∨ a = L) H4 H5 := k5.wider (fun a ha => .inl ha) fun a ha => by
            rcases ha with rfl | rfl
            · exact hh3.lst
            · exact ⟨_, hL3⟩
          exact w1.trans (Kp.put w1.l2 (.inr rfl))
        refine q1 _ _ (.str ls'[jj]) kp ⟨hh5.puts nL.1 nL.2, ls'.eraseIdx jj, ?_, fun x hx => b2 x (List.mem_of_mem_eraseIdx hx), ?_, ?_, ?_⟩ (.str _)
        · rw [upd_same, map_erase]
        · rw [List.length_eraseIdx_of_lt hjj]
          omega
        · rw [List.length_append, List.length_singleton, b4]
        · intro d hd
          rcases List.mem_append.mp hd with hd | hd
          · exact b5 d hd
          · cases List.mem_singleton.mp hd
            exact ⟨_, rfl, b2 _ (List.getElem_mem hjj)⟩
      · rintro H3 acc ds k3 ⟨hh3, ls', hL3, b2, b3, b4, b5⟩ hacc ha
        obtain ⟨xs, rfl, rfl, hx⟩ := all_strs ha b5
        refine .inl ⟨D, _, rfl, .inl (.inl hacc), fun t ht => ?_⟩
        have kall : Kh h H H3 := by
          have k02 : Kh h H H2 := (hh.kh s1).trans k2
          refine ⟨fun b o nb e => ?_, k02.l1, fun b hb => by subst hb; exact hh3.lst⟩
          have nbL : b ≠ L := ne_of_none e hL
          refine k3.st _ _ (fun z => ?_) (k02.st _ _ nb e)
          rcases z with z | z
          · exact nb z
          · exact nbL z
        refine k t xs _ (kall.trans (hh3.kh (same_new ht))) (hh3.same (same_new ht)) (.inl (.inl upd_same)) ?_ hx
        rw [List.length_map] at b4
        omega
end
end K02

/-! trees that are drawn: the hand and the room -/
namespace Cm
open PySem L2 PySem.Spec PyProof.Rows
/-- the hand at h, the room k at r -/
structure Gn (H : Hp) (h c r : Addr) (k : Nat) : Prop where
  hand : Hand H h c
  rm : H r = some (.lst [.int (k : Nat)])
  rh : r ≠ h
  rc : r ≠ c
abbrev Kr (h r : Addr) : Hp → Hp → Prop := Kp (fun a => a = h ∨ a = r)
theorem Gn.lists {H : Hp} {h c r : Addr} {k : Nat} (x : Gn H h c r k) : ∀ a, (a = h ∨ a = r) → ∃ xs, H a = some (.lst xs) := fun a m => by
  rcases m with rfl | rfl
  · exact x.hand.lst
  · exact ⟨_, x.rm⟩
theorem Gn.refl {H : Hp} {h c r : Addr} {k : Nat} (x : Gn H h c r k) : Kr h r H H := Kp.refl x.lists
theorem Gn.same {H H' : Hp} {h c r : Addr} {k : Nat} (x : Gn H h c r k) (s : Same H H') : Gn H' h c r k ∧ Kr h r H H' := ⟨⟨x.hand.same s, s _ _ x.rm, x.rh, x.rc⟩, .of_same x.lists s⟩
theorem Gn.draw {H H' : Hp} {h c r : Addr} {k : Nat} (x : Gn H h c r k) (kh : Kh h H H') (hh : Hand H' h c) : Gn H' h c r k ∧ Kr h r H H' :=
  ⟨⟨hh, kh.st _ _ x.rh x.rm, x.rh, x.rc⟩, kh.wider (fun _ m => .inl m) x.lists⟩
theorem Gn.puts {H : Hp} {h c r D : Addr} {o : HO} {k : Nat} (x : Gn H h c r k) (n1 : D ≠ h) (n2 : D ≠ c) (n3 : D ≠ r) : Gn (upd H D o) h c r k :=
  ⟨x.hand.puts n1 n2, by rw [upd_ne n3.symm]; exact x.rm, x.rh, x.rc⟩
/-- the room is one less -/
theorem Gn.less {H : Hp} {h c r : Addr} {k : Nat} (x : Gn H h c r (k + 1)) : Gn (upd H r (.lst [.int (k : Nat)])) h c r k ∧ Kr h r H (upd H r (.lst [.int (k : Nat)])) :=
  ⟨⟨x.hand.puts x.rh x.rc, upd_same, x.rh, x.rc⟩, Kp.put x.lists (.inr rfl)⟩
theorem sizes_snoc (t : Tr) : ∀ ts : List Tr, Tr.sizes (ts ++ [t]) = Tr.sizes ts + t.size
  | [] => by show t.size + 0 = 0 + t.size; omega
  | a :: ts => by
    have := sizes_snoc t ts
    show a.size + Tr.sizes (ts ++ [t]) = a.size + Tr.sizes ts + t.size
    omega
/-- a comprehension of drawn trees: F says how they lie in the list, E how one of them does -/
theorem lc_gen {K : PySem.W.Frag} {h c r : Addr} {k : Nat} {I : It} {n : Nat} {G : Hp → Prop} {Y : Nat → Hp → V → Hp → Prop} (wk : Walk I n G Y) {g : TG} {te : TE} {vs : List Nat} {σ : L2.St} {H1 : Hp} {D : Addr} {Qd : Hp → Prop}
    (F : List Tr → List PyData) (E : Nat → Tr → PyData) (dm cost : Nat) (F0 : F [] = []) (FS : ∀ ts t, ts.length < n → F (ts ++ [t]) = F ts ++ [E ts.length t]) (Fl : ∀ ts, flatDs (F ts) = true)
    (x0 : Gn H1 h c r k) (hD : H1 D = Option.none) (hn : n ≤ 100000) (hG : ∀ H, Kr h r H1 H → G H)
    (hs : ∀ i x k1 H H', i < n → Kr h r H1 H → Gn H h c r k1 → Y i H x H' → ∀ Q1 : VK, (∀ v t k2 H4, Kr h r H H4 → Gn H4 h c r k2 → Dp K H4 v (E i t) → t.ok → t.dep ≤ dm → t.size + 12 * k2 ≤ cost + 12 * k1 → Q1 v H4) →
      g x (wipe σ vs) H' fun σ2 H2 => wipe σ2 vs = wipe σ vs ∧ te σ2 H2 Q1)
    (hd : ∀ H acc ts k1, Kr h r H1 H → Gn H h c r k1 → H D = some (.lst acc) → DpAll K H acc (F ts) → ts.length = n → (∀ t ∈ ts, t.ok ∧ t.dep ≤ dm) → Tr.sizes ts + 12 * k1 ≤ cost * n + 12 * k → Qd H) :
    ∃ W : Nat → Nat → Hp → Prop, (∃ m, W 0 m (upd H1 D (.lst []))) ∧ ∀ i m H, W i m H →
      (I.stop i H ∧ Qd H) ∨ (I.go i H ∧ ∃ Nx : Hp → Prop, (∀ H', Nx H' → ∃ m', m' < m ∧ W (i + 1) m' H') ∧ ∀ x H', I.yld i H x H' → g x (wipe σ vs) H' fun σ2 H2 => wipe σ2 vs = wipe σ vs ∧ tYes σ2 H2 fun b H3 =>
        if b = true then te σ2 H3 fun y H4 => ∃ acc, H4 D = some (.lst acc) ∧ acc.length < sizeLine ∧ Nx (upd H4 D (.lst (acc ++ [y]))) else Nx H3) := by
  have nD := x0.hand.there hD
  have nDr : D ≠ r := (ne_of_none x0.rm hD).symm
  refine lc_drawJ (K := K) (M := fun a => a = h ∨ a = r) wk (fun i ds H => ∃ ts k1, ds = F ts ∧ Gn H h c r k1 ∧ ts.length = i ∧ (∀ t ∈ ts, t.ok ∧ t.dep ≤ dm) ∧ Tr.sizes ts + 12 * k1 ≤ cost * i + 12 * k) x0.lists
    ⟨[], k, F0.symm, (x0.same (same_new hD)).1, rfl, (fun _ m => by cases m), (by show 0 + 12 * k ≤ cost * 0 + 12 * k; omega)⟩ (fun i ds H ys _ j => ?_) hD hn (fun _ _ H kk _ => hG H kk) (fun i ds H j => ?_) ?_ ?_
  · obtain ⟨ts, k1, a1, a2, a3⟩ := j
    exact ⟨ts, k1, a1, a2.puts nD.1 nD.2 nDr, a3⟩
  · obtain ⟨ts, k1, rfl, _⟩ := j
    exact Fl ts
  · rintro i x ds H H' hi kk ⟨ts, k1, rfl, a2, a3, a4, a5⟩ y Q1 Q0 q1 q0
    refine hs i x k1 H H' hi kk a2 y Q1 fun v t k2 H4 k4 x4 hv ok dp sz => ?_
    refine q1 v H4 (E i t) k4 ⟨ts ++ [t], k2, ?_, x4, ?_, ?_, ?_⟩ hv
    · rw [FS ts t (by omega), a3]
    · rw [List.length_append, a3]; rfl
    · intro u hu
      rcases List.mem_append.mp hu with hu | hu
      · exact a4 u hu
      · cases List.mem_singleton.mp hu
        exact ⟨ok, dp⟩
    · rw [sizes_snoc, Nat.mul_succ]
      omega
  · rintro H acc ds kk ⟨ts, k1, rfl, a2, a3, a4, a5⟩ hacc ha
    exact hd H acc ts k1 kk a2 hacc ha a3 a4 a5
theorem encL_snoc (t : Tr) (ts : List Tr) : Tr.encL (ts ++ [t]) = Tr.encL ts ++ [t.enc] := by
  rw [encL_map, encL_map, List.map_append]
  rfl
/-- rows of names and trees -/
def rowsL (xs : List Str) (ts : List Tr) : List PyData := (xs.zip (Tr.encL ts)).map rowD
theorem rowsL_snoc {t : Tr} : ∀ {xs : List Str} {ts : List Tr}, ts.length < xs.length → rowsL xs (ts ++ [t]) = rowsL xs ts ++ [rowD ((xs[ts.length]?).getD "", t.enc)]
  | x :: xs, [], _ => by simp [rowsL, Tr.encL]
  | x :: xs, a :: ts, h => by
    have ih := rowsL_snoc (t := t) (xs := xs) (ts := ts) (by simpa using h)
    show rowD (x, a.enc) :: rowsL xs (ts ++ [t]) = rowD (x, a.enc) :: rowsL xs ts ++ _
    rw [ih]
    rfl
theorem rowsL_flat (xs : List Str) (ts : List Tr) : flatDs (rowsL xs ts) = true := flatDs_of _ fun d hd => by
  obtain ⟨p, hp, rfl⟩ := List.mem_map.mp hd
  have h := (List.of_mem_zip (show (p.1, p.2) ∈ xs.zip (Tr.encL ts) from hp)).2
  have := flatDs_all (flat_encL ts) _ h
  simp [rowD, flatD, flatDs, this]
end Cm

namespace K02
open PySem L2 Cm
/-- a tree is drawn, less than n deep -/
def spAny (K : PySem.W.Frag) (n : Nat) : Sp := fun vs H Q _ => ∃ (h c nm r : Addr) (names : List Str) (k deep : Nat), vs = [.ref h, .int (deep : Nat), .ref nm, .ref r] ∧ Gn H h c r k ∧ SqT K H nm (names.map V.str) ∧ names ≠ [] ∧ names.length ≤ 10 ∧ (∀ x ∈ names, sok x) ∧ deep < n ∧
  ∀ (v : V) (t : Tr) (k' : Nat) (H' : Hp), Kr h r H H' → Gn H' h c r k' → Dp K H' v t.enc → t.ok → t.dep ≤ 1 + 2 * deep → t.size + 12 * k' ≤ 1 + 12 * k → Q v H'
def spFun (K : PySem.W.Frag) (n : Nat) : Sp := fun vs H Q _ => ∃ (h c nm r : Addr) (names : List Str) (k deep : Nat) (most : Int), vs = [.ref h, .int ((deep + 1 : Nat) : Int), .ref nm, .ref r, .int most] ∧ Gn H h c r k ∧ SqT K H nm (names.map V.str) ∧ names ≠ [] ∧ names.length ≤ 10 ∧ (∀ x ∈ names, sok x) ∧ deep < n ∧ 0 ≤ most ∧ most ≤ 20 ∧
  ∀ (v : V) (t : Tr) (k' : Nat) (H' : Hp), Kr h r H H' → Gn H' h c r k' → Dp K H' v t.enc → t.ok → t.dep ≤ 2 + 2 * deep → t.size + 12 * k' ≤ 2 + 12 * k → Q v H'
theorem dec1 (d : Nat) : ((d + 1 : Nat) : Int) - 1 = ((d : Nat) : Int) := by omega
theorem iteEq {x y : Str} {A B : Prop} (h : x = y) (a : A) : if decide (V.str x = V.str y) = true then A else B := by
  rw [decS, decide_eq_true h]
  exact iteT a
theorem iteNe {x y : Str} {A B : Prop} (h : ¬ x = y) (b : B) : if decide (V.str x = V.str y) = true then A else B := by
  rw [decS, decide_eq_false h]
  exact iteF b
theorem iteIn {x : Str} {ws : List Str} {A B : Prop} (h : x ∈ ws) (a : A) : if inV (.str x) (ws.map V.str) = true then A else B := by
  rw [in_words, decide_eq_true h]
  exact iteT a
theorem iteNi {x : Str} {ws : List Str} {A B : Prop} (h : ¬ x ∈ ws) (b : B) : if inV (.str x) (ws.map V.str) = true then A else B := by
  rw [in_words, decide_eq_false h]
  exact iteF b
theorem zip_end {xs : List Str} {ts : List Tr} {t : Tr} (h : ts.length = xs.length) : (xs.zip (Tr.encL (ts ++ [t]))).map rowD = rowsL xs ts ∧ (Tr.encL (ts ++ [t])).drop xs.length = [t.enc] := by
  rw [encL_snoc]
  have hl : (Tr.encL ts).length = xs.length := by rw [encL_len, h]
  refine ⟨?_, ?_⟩
  · unfold rowsL
    congr 1
    have e : xs = xs ++ [] := (List.append_nil xs).symm
    conv => lhs; rw [e]
    rw [List.zip_append hl.symm]
    simp
  · rw [List.drop_append, hl, Nat.sub_self, List.drop_of_length_le (Nat.le_of_eq hl)]
    rfl
section
variable {P : Program} {w : World} {K : PySem.W.Frag} {mg : Str → Option Value} {base : Heap}
abbrev s_l_any_fun : Stmt := top 20
abbrev N_l_any_fun : List Str := ["_law_hand_here", "_law_deep", "_law_names", "_law_room", "_law_most", "_law_handed"]
theorem sc_l_any_fun : FnScope N_l_any_fun ["_law_hand_here", "_law_deep", "_law_names", "_law_room", "_law_most"] (defScope s_l_any_fun) := ⟨rfl, rfl, rfl, by decide +kernel, rfl, by decide +kernel, by decide +kernel⟩
theorem ok_any_fun {n lv : Nat} (hlv : 3 ≤ lv) (c_l_any_names : Cl P w K mg base 3 "_law_any_names" (spNames K)) (c_l_any : Cl P w K mg base lv "_law_any" (spAny K n)) (D : At K mg "_law_any_fun" s_l_any_fun ["_law_hand_here", "_law_deep", "_law_names", "_law_room", "_law_most"]) :
    Cl P w K mg base (lv + 1) "_law_any_fun" (spFun K n) := by
  refine cl_of D sc_l_any_fun (fun vs H Q E h => ?_) fun f cdv A outer s H vs Q E hr h => ?_
  · obtain ⟨h, c, nm, r, names, k, deep, most, rfl, _⟩ := h
    rfl
  · obtain ⟨h, c, nm, r, names, k, deep, most, rfl, x, hn, hne, hnl, hso, hdn, hm0, hm1, q⟩ := h
    refine ⟨_, (pss_cons (ps_set (i := 5) sc_l_any_fun.nd rfl (Or.inl rfl) (pe_c c_l_any_names hr hlv (by rfl) (pa_cons (pv 0) (pa_cons (pv 2) (pa_cons (pv 4) pa_nil)))))
      (pss_one (ps_ret (pe_tup (pa_cons pe_str (pa_cons (pv 5) (pa_cons (pe_c c_l_any hr (Nat.le_refl _) (by rfl) (pa_cons (pv 0) (pa_cons (pe_op op_sub (pv 1) pe_int) (pa_cons (pv 2) (pa_cons (pv 3) pa_nil))))) pa_nil))))))), ?_⟩
    refine ⟨_, rfl, _, rfl, _, rfl, h, c, nm, names, most, rfl, x.hand, hn, hnl, hm0, hm1, fun rx xs H1 kh hh1 hrx hxl hxs => ?_⟩
    obtain ⟨x1, kr1⟩ := x.draw kh hh1
    refine ⟨_, rfl, _, rfl, _, rfl, _, _, rfl, rfl, _, rfl, _, rfl, h, c, nm, r, names, k, deep, ?_, x1, kr1.tup hn, hne, hnl, hso, hdn, fun v t k2 H2 kr2 x2 hv ok dp sz => ?_⟩
    · show [V.ref h, V.int (((deep + 1 : Nat) : Int) - 1), V.ref nm, V.ref r] = _
      rw [dec1]
    refine ⟨by show 3 ≤ sizeLine; decide, fun tt ht => ?_⟩
    have s3 := same_new (o := .tup [.str "fn", .ref rx, v]) ht
    obtain ⟨x3, kr3⟩ := x2.same s3
    refine q _ (.mk (.fn xs) [t]) k2 _ ((kr1.trans kr2).trans kr3) x3 ?_ ?_ ?_ ?_
    · exact unview (h := .fn xs) (ds := [t.enc]) (.inl (.inl upd_same)) ⟨rx, [v], rfl, sqt_same s3 (kr2.tup hrx), .cons (dp_same s3 _ _ hv) .nil⟩
    · exact ⟨⟨rfl, by omega, fun y hy => hso y (hxs y hy)⟩, by show 1 ≤ 11; decide, ok, trivial⟩
    · show max t.dep 0 + 1 ≤ _
      omega
    · show t.size + 0 + 1 + 12 * k2 ≤ _
      omega
def genW : List Str := ["fn", "let", "rec", "set", "if", "do", "call", "op", "op", "keep", "once", "take", "mark", "wind", "show", "call"]
def opW : List Str := ["+", "-", "*", "quot", "rem", "<", "=", "same?", "pair", "left!", "right!", "left", "right", "pair?", "none?", "rest?", "fun?"]
def lastW : List Str := ["if", "do", "mark", "wind", "show"]
theorem genW_cases : ∀ w ∈ genW, w = "fn" ∨ w = "let" ∨ w = "rec" ∨ w ∈ oneW ∨ w = "op" ∨ w = "call" ∨ w ∈ lastW := by decide +kernel
theorem mem_str {ws : List Str} {v : V} (h : v ∈ ws.map V.str) : ∃ w, w ∈ ws ∧ v = .str w := by
  obtain ⟨w, hw, rfl⟩ := List.mem_map.mp h
  exact ⟨w, hw, rfl⟩
abbrev manyK (m : Nat) : List (Key × V) := [(Sum.inr "if", V.int 3), (Sum.inr "do", V.int (m : Nat)), (Sum.inr "mark", V.int 1), (Sum.inr "wind", V.int 3), (Sum.inr "show", V.int 1)]
theorem many_at {m : Nat} (hm : m ≤ 10) : ∀ y ∈ lastW, ∃ m2 : Nat, m2 ≤ 10 ∧ valV (mergeK [] (manyK m)) (Sum.inr y) = some (.int (m2 : Nat)) := by
  intro y hy
  simp only [lastW, List.mem_cons, List.not_mem_nil, or_false] at hy
  rcases hy with rfl | rfl | rfl | rfl | rfl
  · exact ⟨3, by decide, rfl⟩
  · exact ⟨m, hm, rfl⟩
  · exact ⟨1, by decide, rfl⟩
  · exact ⟨3, by decide, rfl⟩
  · exact ⟨1, by decide, rfl⟩
abbrev s_l_any : Stmt := top 21
abbrev N_l_any : List Str := ["_law_hand_here", "_law_deep", "_law_names", "_law_room", "_law_word", "_law_bound", "_law_rows", "_law_name", "_law_op", "_law_many", "_law_k", "_law_called", "_law_inner"]
theorem sc_l_any : FnScope N_l_any ["_law_hand_here", "_law_deep", "_law_names", "_law_room"] (defScope s_l_any) := ⟨rfl, rfl, rfl, by decide +kernel, rfl, by decide +kernel, by decide +kernel⟩
theorem ok_any (T : Txt mg) (c_l_draw : Cl P w K mg base 2 "_law_draw" spDraw) (c_l_pick : Cl P w K mg base 3 "_law_pick" (spPick K)) (c_l_any_leaf : Cl P w K mg base 4 "_law_any_leaf" (spLeaf K)) (c_l_any_names : Cl P w K mg base 3 "_law_any_names" (spNames K))
    (DF : At K mg "_law_any_fun" s_l_any_fun ["_law_hand_here", "_law_deep", "_law_names", "_law_room", "_law_most"]) (D : At K mg "_law_any" s_l_any ["_law_hand_here", "_law_deep", "_law_names", "_law_room"]) :
    ∀ n, Cl P w K mg base (2 * n + 5) "_law_any" (spAny K n) := by
  intro n
  induction n with
  | zero =>
    refine cl_of D sc_l_any (fun vs H Q E h => ?_) fun f cdv A outer s H vs Q E hr h => ?_
    · obtain ⟨h, c, nm, r, names, k, deep, rfl, _⟩ := h
      rfl
    · obtain ⟨h, c, nm, r, names, k, deep, _, _, _, _, _, _, z, _⟩ := h
      exact absurd z (Nat.not_lt_zero _)
  | succ n ih =>
    have c_l_any_fun := ok_any_fun (by omega) c_l_any_names ih DF
    refine cl_of (k := 2 * n + 6) D sc_l_any (fun vs H Q E h => ?_) fun f cdv A outer s H vs Q E hr h => ?_
    · obtain ⟨h, c, nm, r, names, k, deep, rfl, _⟩ := h
      rfl
    · obtain ⟨h, c, nm, r, names, k, deep, rfl, x, hn, hne, hnl, hso, hdn, q⟩ := h
      have hu := hu_of hr
      refine ⟨_, (pss_cons (ps_if (PW.pt (pw_or (pt_cmpR op_le (pv 1) pe_int (nomark _)) (pw_or1 (pt_cmpR op_le (pe_ix ix_list (pv 3) pe_int (fun _ _ => rfl)) pe_int (nomark _)))))
        (pss_one (ps_ret (pe_c c_l_any_leaf hr (by omega) (by rfl) (pa_cons (pv 0) (pa_cons (pv 2) pa_nil)))))
        pss_nil)
      (pss_mid (ps_asg (pe_op op_sub (pe_ix ix_list (pv 3) pe_int (fun _ _ => rfl)) pe_int) (pg_sub (pv 3) pe_int set_list))
      (pss_cons (ps_set (i := 4) sc_l_any.nd rfl (Or.inl rfl) (pe_c c_l_pick hr (by omega) (by rfl) (pa_cons (pv 0) (pa_cons (pe_tup (pa_cons pe_str (pa_cons pe_str (pa_cons pe_str (pa_cons pe_str (pa_cons pe_str (pa_cons pe_str (pa_cons pe_str (pa_cons pe_str (pa_cons pe_str (pa_cons pe_str (pa_cons pe_str (pa_cons pe_str (pa_cons pe_str (pa_cons pe_str (pa_cons pe_str (pa_cons pe_str pa_nil))))))))))))))))) pa_nil))))
      (pss_cons (ps_if (pt_cmpR op_eq (pv 4) pe_str (nomark _))
        (pss_one (ps_ret (pe_c c_l_any_fun hr (by omega) (by rfl) (pa_cons (pv 0) (pa_cons (pv 1) (pa_cons (pv 2) (pa_cons (pv 3) (pa_cons pe_int pa_nil))))))))
        pss_nil)
      (pss_cons (ps_if (pt_inW (pv 4) (.cons (.cons .nil)) (show 2 ≤ sizeLine by decide) (by rfl))
        (pss_cons (ps_set (i := 5) sc_l_any.nd rfl (Or.inl rfl) (pe_c c_l_any_names hr (by omega) (by rfl) (pa_cons (pv 0) (pa_cons (pv 2) (pa_cons pe_int pa_nil)))))
        (pss_mid (ps_if (pt_cmpR (op_eqD hr.units) (pv 5) (pe_tup pa_nil) (nomark _))
          (pss_one (ps_set (i := 5) sc_l_any.nd rfl (Or.inl rfl) (pe_slice sl_tupA (pv 2) po_none (po_some pe_int))))
          pss_nil)
        (pss_mid (ps_if (pt_cmpR op_eq (pv 4) pe_str (nomark _))
          (pss_one (ps_setLc (i := 6) (own := [("_law_name", 7)]) rfl sc_l_any.nd rfl rfl (sw_true rfl rfl rfl (by decide +kernel)) (pi_tup (pv 5)) (blkOk_by (N := N_l_any) (sc := defScope s_l_any) (by decide +kernel))
      (fun _ _ _ _ _ => (pg_name (i := 7) sc_l_any.nd rfl (Or.inl rfl)))
      (fun _ _ _ _ _ => pts_nil)
      (fun _ _ _ _ _ => (pe_tup (pa_cons (pv 7) (pa_cons (pe_c ih hr (by omega) (by rfl) (pa_cons (pv 0) (pa_cons (pe_op op_sub (pv 1) pe_int) (pa_cons (pv 2) (pa_cons (pv 3) pa_nil))))) pa_nil))))))
          (pss_one (ps_setLc (i := 6) (own := [("_law_name", 7)]) rfl sc_l_any.nd rfl rfl (sw_true rfl rfl rfl (by decide +kernel)) (pi_tup (pe_slice sl_tupA (pv 5) po_none (po_some pe_int))) (blkOk_by (N := N_l_any) (sc := defScope s_l_any) (by decide +kernel))
      (fun _ _ _ _ _ => (pg_name (i := 7) sc_l_any.nd rfl (Or.inl rfl)))
      (fun _ _ _ _ _ => pts_nil)
      (fun _ _ _ _ _ => (pe_tup (pa_cons (pv 7) (pa_cons (pe_c c_l_any_fun hr (by omega) (by rfl) (pa_cons (pv 0) (pa_cons (pv 1) (pa_cons (pv 2) (pa_cons (pv 3) (pa_cons pe_int pa_nil)))))) pa_nil)))))))
        (pss_one (ps_ret (pe_tup (pa_cons (pv 4) (pa_cons (pe_tupleOf (by rfl) T.tuple (pv 6)) (pa_cons (pe_c ih hr (by omega) (by rfl) (pa_cons (pv 0) (pa_cons (pe_op op_sub (pv 1) pe_int) (pa_cons (pv 2) (pa_cons (pv 3) pa_nil))))) pa_nil)))))))))
        pss_nil)
      (pss_cons (ps_if (pt_inW (pv 4) (.cons (.cons (.cons (.cons .nil)))) (show 4 ≤ sizeLine by decide) (by rfl))
        (pss_one (ps_ret (pe_tup (pa_cons (pv 4) (pa_cons (pe_c c_l_pick hr (by omega) (by rfl) (pa_cons (pv 0) (pa_cons (pv 2) pa_nil))) (pa_cons (pe_c ih hr (by omega) (by rfl) (pa_cons (pv 0) (pa_cons (pe_op op_sub (pv 1) pe_int) (pa_cons (pv 2) (pa_cons (pv 3) pa_nil))))) pa_nil))))))
        pss_nil)
      (pss_cons (ps_if (pt_cmpR op_eq (pv 4) pe_str (nomark _))
        (pss_cons (ps_set (i := 8) sc_l_any.nd rfl (Or.inl rfl) (pe_c c_l_pick hr (by omega) (by rfl) (pa_cons (pv 0) (pa_cons (pe_tup (pa_cons pe_str (pa_cons pe_str (pa_cons pe_str (pa_cons pe_str (pa_cons pe_str (pa_cons pe_str (pa_cons pe_str (pa_cons pe_str (pa_cons pe_str (pa_cons pe_str (pa_cons pe_str (pa_cons pe_str (pa_cons pe_str (pa_cons pe_str (pa_cons pe_str (pa_cons pe_str (pa_cons pe_str pa_nil)))))))))))))))))) pa_nil))))
        (pss_mid (ps_set (i := 9) sc_l_any.nd rfl (Or.inl rfl) (pe_ifExp (pt_inW (pv 8) (.cons (.cons (.cons (.cons (.cons (.cons .nil)))))) (show 6 ≤ sizeLine by decide) (by rfl)) pe_int pe_int))
        (pss_one (ps_ret (pe_tup (pa_cons pe_str (pa_cons (pv 8) (pa_cons (pe_tupleOf (by rfl) T.tuple (pe_lc (own := [("_law_k", 10)]) rfl sc_l_any.nd (pi_range1 (by rfl) T.range (pa_cons (pv 9) pa_nil)) (blkOk_by (N := N_l_any) (sc := defScope s_l_any) (by decide +kernel))
      (fun _ _ _ _ _ => (pg_name (i := 10) sc_l_any.nd rfl (Or.inl rfl)))
      (fun _ _ _ _ _ => pts_nil)
      (fun _ _ _ _ _ => (pe_c ih hr (by omega) (by rfl) (pa_cons (pv 0) (pa_cons (pe_op op_sub (pv 1) pe_int) (pa_cons (pv 2) (pa_cons (pv 3) pa_nil)))))))) pa_nil))))))))
        pss_nil)
      (pss_cons (ps_if (pt_cmpR op_eq (pv 4) pe_str (nomark _))
        (pss_cons (ps_set (i := 11) sc_l_any.nd rfl (Or.inl rfl) (pe_c ih hr (by omega) (by rfl) (pa_cons (pv 0) (pa_cons (pe_op op_sub (pv 1) pe_int) (pa_cons (pv 2) (pa_cons (pv 3) pa_nil))))))
        (pss_one (ps_ret (pe_tup (pa_cons pe_str (pa_cons (pv 11) (pa_cons (pe_tupleOf (by rfl) T.tuple (pe_lc (own := [("_law_k", 10)]) rfl sc_l_any.nd (pi_range1 (by rfl) T.range (pa_cons (pe_ix ix_tup (pe_tup (pa_cons pe_int (pa_cons pe_int (pa_cons pe_int (pa_cons pe_int pa_nil))))) (pe_c c_l_draw hr (by omega) (by rfl) (pa_cons (pv 0) (pa_cons pe_int pa_nil))) (fun _ _ => rfl)) pa_nil)) (blkOk_by (N := N_l_any) (sc := defScope s_l_any) (by decide +kernel))
      (fun _ _ _ _ _ => (pg_name (i := 10) sc_l_any.nd rfl (Or.inl rfl)))
      (fun _ _ _ _ _ => pts_nil)
      (fun _ _ _ _ _ => (pe_c ih hr (by omega) (by rfl) (pa_cons (pv 0) (pa_cons (pe_op op_sub (pv 1) pe_int) (pa_cons (pv 2) (pa_cons (pv 3) pa_nil)))))))) pa_nil)))))))
        pss_nil)
      (pss_mid (ps_set (i := 9) sc_l_any.nd rfl (Or.inl rfl) (pe_dget hu (pe_disp (pps_cons pe_str pe_int (pps_cons pe_str (pe_ix ix_tup (pe_tup (pa_cons pe_int (pa_cons pe_int (pa_cons pe_int (pa_cons pe_int pa_nil))))) (pe_c c_l_draw hr (by omega) (by rfl) (pa_cons (pv 0) (pa_cons pe_int pa_nil))) (fun _ _ => rfl)) (pps_cons pe_str pe_int (pps_cons pe_str pe_int (pps_cons pe_str pe_int pps_nil))))) (by rfl) (by rfl) (fun z => by cases z) (by decide)) (pv 4) (fun _ _ => rfl)))
      (pss_cons (ps_set (i := 12) sc_l_any.nd rfl (Or.inl rfl) (pe_tupleOf (by rfl) T.tuple (pe_lc (own := [("_law_k", 10)]) rfl sc_l_any.nd (pi_range1 (by rfl) T.range (pa_cons (pv 9) pa_nil)) (blkOk_by (N := N_l_any) (sc := defScope s_l_any) (by decide +kernel))
      (fun _ _ _ _ _ => (pg_name (i := 10) sc_l_any.nd rfl (Or.inl rfl)))
      (fun _ _ _ _ _ => pts_nil)
      (fun _ _ _ _ _ => (pe_c ih hr (by omega) (by rfl) (pa_cons (pv 0) (pa_cons (pe_op op_sub (pv 1) pe_int) (pa_cons (pv 2) (pa_cons (pv 3) pa_nil)))))))))
      (pss_one (ps_ret (pe_ifExp (pt_cmpR op_eq (pv 4) pe_str (nomark _)) (pe_tup (pa_cons pe_str (pa_cons (pv 12) pa_nil))) (pe_op op_catA (pe_tup (pa_cons (pv 4) pa_nil)) (pv 12))))))))))))))), ?_⟩
      refine ⟨_, rfl, _, _, rfl, rfl, _, rfl, ?_⟩
      refine ite2 (fun _ => iteT ⟨_, rfl, _, rfl, h, c, nm, names, rfl, x.hand, hn, hne, hnl, hso, fun v t H' kh hh hv ok dp sz => q v t k H' (x.draw kh hh).2 (x.draw kh hh).1 hv ok (by omega) (by omega)⟩) (fun hd0 => ?_)
      refine ⟨_, rfl, _, _, _, _, rfl, rfl, .inl (.inl x.rm), rfl, _, _, rfl, rfl, _, rfl, ?_⟩
      refine ite2 (fun _ => ⟨_, rfl, _, rfl, h, c, nm, names, rfl, x.hand, hn, hne, hnl, hso, fun v t H' kh hh hv ok dp sz => q v t k H' (x.draw kh hh).2 (x.draw kh hh).1 hv ok (by omega) (by omega)⟩) (fun hk0 => ?_)
      obtain ⟨d1, rfl⟩ : ∃ d1, deep = d1 + 1 := ⟨deep - 1, by
        have : ¬ ((deep : Nat) : Int) ≤ 0 := fun z => hd0 (decide_eq_true z)
        omega⟩
      obtain ⟨k1, rfl⟩ : ∃ k1, k = k1 + 1 := ⟨k - 1, by
        have : ¬ ((k : Nat) : Int) ≤ 0 := fun z => hk0 (decide_eq_true z)
        omega⟩
      clear hd0 hk0
      refine ⟨fun σ' H' => σ' = [some (.ref h), some (.int ((d1 + 1 : Nat) : Int)), some (.ref nm), some (.ref r), none, none, none, none, none, none, none, none, none] ∧ Gn H' h c r k1 ∧ Kr h r H H', ?_, ?_⟩
      · refine ⟨_, rfl, _, _, _, _, rfl, rfl, .inl (.inl x.rm), rfl, _, _, rfl, rfl, _, rfl, r, _, _, 0, rfl, rfl, x.rm, rfl, rfl, ?_⟩
        have e : ((k1 + 1 : Nat) : Int) - 1 = ((k1 : Nat) : Int) := dec1 k1
        have z := x.less
        rw [← e] at z
        exact z
      rintro σ' H1 ⟨rfl, x1, kr1⟩
      refine ⟨_, rfl, by show 16 ≤ sizeLine; decide, fun tw htw => ?_⟩
      obtain ⟨x1', kr1'⟩ := x1.same (same_new (o := .tup (genW.map V.str)) htw)
      refine ⟨h, c, tw, genW.map V.str, rfl, x1'.hand, .inr (.inl (.inl upd_same)), by decide, by decide, fun v H2 hv kh2 hh2 => ?_⟩
      obtain ⟨x2, kr2'⟩ := x1'.draw kh2 hh2
      have kr2 := (kr1.trans kr1').trans kr2'
      obtain ⟨wd0, hwd, rfl⟩ := mem_str hv
      have hn2 := kr2.tup hn
      clear hv kh2 hh2 x1 kr1 x1' kr1' kr2' htw
      have hdn1 : d1 < n := by omega
      have argEq : ∀ vs : List V, vs = [V.ref h, V.int (((d1 + 1 : Nat) : Int) - 1), V.ref nm, V.ref r] → vs = [V.ref h, V.int ((d1 : Nat) : Int), V.ref nm, V.ref r] := fun vs e => by rw [e, dec1]
      rcases genW_cases wd0 hwd with rfl | rfl | rfl | hw | rfl | rfl | hw
      · refine ⟨_, rfl, rfl, _, rfl, iteEq rfl ?_⟩
        exact ⟨_, rfl, _, rfl, _, rfl, _, rfl, h, c, nm, r, names, k1, d1, 8, rfl, x2, hn2, hne, hnl, hso, hdn1, by decide, by decide, fun v t k2 H3 kr3 x3 hv ok dp sz => q v t k2 H3 (kr2.trans kr3) x3 hv ok (by omega) (by omega)⟩
      · refine ⟨_, rfl, rfl, _, rfl, iteNe (by decide +kernel) ?_⟩
        refine ⟨_, rfl, rfl, fun H2b s2b => iteIn (ws := ["let", "rec"]) (by decide +kernel) ?_⟩
        obtain ⟨x3, kr3'⟩ := x2.same s2b
        have kr3 := kr2.trans kr3'
        refine ⟨_, rfl, _, rfl, h, c, nm, names, 3, rfl, x3.hand, kr3.tup hn, hnl, by decide, by decide, fun rb bs H3 kh3 hh3 hrb hbl hbs => ?_⟩
        obtain ⟨x4, kr4'⟩ := x3.draw kh3 hh3
        have kr4 := kr3.trans kr4'
        clear kr3' kr4' kh3 hh3 x2 x3
        refine ⟨fun σ' H' => ∃ (rb : Addr) (bs : List Str), σ' = [some (.ref h), some (.int ((d1 + 1 : Nat) : Int)), some (.ref nm), some (.ref r), some (.str "let"), some (.ref rb), none, none, none, none, none, none, none] ∧ Gn H' h c r k1 ∧ Kr h r H H' ∧ SqT K H' rb (bs.map V.str) ∧ bs.length ≤ 3 ∧ ∀ x ∈ bs, x ∈ names, ?_, ?_⟩
        · refine ⟨_, rfl, by show 0 ≤ sizeLine; decide, fun e0 he0 => ?_⟩
          have s5 := same_new (o := .tup []) he0
          obtain ⟨x5, kr5⟩ := x4.same s5
          refine ⟨encs bs, .tuple [], .tup (sqt_same s5 hrb) (dpAll_strs bs), .tup (.inl (.inl upd_same)) .nil, (lay_strs (fun y hy => hso y (hbs y hy)) 0).sh (by decide), by decide +kernel, _, rfl, ?_⟩
          refine ite2 (fun _ => ?_) (fun _ => ⟨rb, bs, rfl, x5, kr4.trans kr5, sqt_same s5 hrb, by omega, hbs⟩)
          refine ⟨_, rfl, 1, rfl, ?_⟩
          have hpos : 0 < names.length := List.length_pos_iff.mpr hne
          refine sl_to (k := 1) ((kr4.trans kr5).tup hn) (by rw [List.length_map]; omega) fun t6 H6 s6 ht6 => ?_
          obtain ⟨x6, kr6⟩ := x5.same s6
          rw [← List.map_take] at ht6
          exact ⟨t6, names.take 1, rfl, x6, (kr4.trans kr5).trans kr6, ht6, by rw [List.length_take]; omega, fun y hy => List.mem_of_mem_take hy⟩
        clear hbs hbl hrb x4 kr4
        rintro σ' H4 ⟨rb, bs, rfl, x4, kr4, hrb, hbl, hbs⟩
        refine ⟨fun σ' H' => ∃ (L : Addr) (bs : List Str) (acc : List V) (ts : List Tr) (k2 : Nat) (v5 v7 : Option V), σ' = [some (.ref h), some (.int ((d1 + 1 : Nat) : Int)), some (.ref nm), some (.ref r), some (.str "let"), v5, some (.ref L), v7, none, none, none, none, none] ∧ Gn H' h c r k2 ∧ Kr h r H H' ∧
          H' L = some (.lst acc) ∧ DpAll K H' acc (rowsL bs ts) ∧ ts.length = bs.length ∧ bs.length ≤ 3 ∧ (∀ x ∈ bs, x ∈ names) ∧ (∀ t ∈ ts, t.ok ∧ t.dep ≤ 2 + 2 * d1) ∧ Tr.sizes ts + 12 * k2 ≤ 4 + 12 * k1, ?_, ?_⟩
        · refine ⟨_, rfl, rfl, _, rfl, iteEq rfl ?_⟩
          refine ⟨_, rfl, rb, rfl, ⟨_, hrb⟩, fun D hD => ?_⟩
          refine lc_gen (K := K) (walk_tup (xs := bs.map V.str)) (rowsL bs) (fun i t => rowD ((bs[i]?).getD "", t.enc)) (1 + 2 * d1) 1 (by simp [rowsL, Tr.encL]) (fun ts t hl => rowsL_snoc (by rw [List.length_map] at hl; exact hl)) (rowsL_flat bs) x4 hD (by rw [List.length_map]; omega)
            (fun H' kk => kk.tup hrb) ?_ ?_
          · rintro i y k2 H5 H6 hi kk x5 ⟨rfl, e2⟩ Q1 q1
            obtain ⟨b, eb, rfl⟩ := map_at e2
            refine ⟨rfl, ?_⟩
            refine ⟨_, rfl, _, rfl, _, rfl, _, _, rfl, rfl, _, rfl, _, rfl, h, c, nm, r, names, k2, d1, argEq _ rfl, x5, (kr4.trans kk).tup hn, hne, hnl, hso, hdn1, fun v t k3 H7 kr7 x7 hv ok dp sz => ?_⟩
            refine ⟨by show 2 ≤ sizeLine; decide, fun p hp => ?_⟩
            have s8 := same_new (o := .tup [.str b, v]) hp
            obtain ⟨x8, kr8⟩ := x7.same s8
            refine q1 _ t k3 _ (kr7.trans kr8) x8 ?_ ok dp (by omega)
            rw [eb]
            exact .tup (.inl (.inl upd_same)) (.cons (.str _) (.cons (dp_same s8 _ _ hv) .nil))
          · intro H5 acc ts k2 kk x5 hacc ha hts hok hsz
            rw [List.length_map] at hts hsz
            exact ⟨D, bs, acc, ts, k2, _, _, rfl, x5, kr4.trans kk, hacc, ha, hts, hbl, hbs, fun t ht => ⟨(hok t ht).1, by have := (hok t ht).2; omega⟩, by omega⟩
        rintro σ' H5 ⟨L, bs, acc, ts, k2, v5, v7, rfl, x5, kr5, hL5, ha5, hts, hbl, hbs, hok, hsz⟩
        refine ⟨_, rfl, _, rfl, .inl ⟨L, _, rfl, .inl (.inl hL5), fun t6 ht6 => ?_⟩⟩
        have s6 := same_new (o := .tup acc) ht6
        obtain ⟨x6, kr6'⟩ := x5.same s6
        have kr6 := kr5.trans kr6'
        have ha6 := dps_same s6 _ _ ha5
        have ht6' : SqT K (upd H5 t6 (.tup acc)) t6 acc := .inl (.inl upd_same)
        generalize upd H5 t6 (.tup acc) = H6 at *
        refine ⟨_, rfl, _, rfl, _, _, rfl, rfl, _, rfl, _, rfl, h, c, nm, r, names, k2, d1, argEq _ rfl, x6, kr6.tup hn, hne, hnl, hso, hdn1, fun v t k3 H7 kr7 x7 hv ok dp sz => ?_⟩
        refine ⟨by show 3 ≤ sizeLine; decide, fun p hp => ?_⟩
        have s8 := same_new (o := .tup [.str "let", .ref t6, v]) hp
        obtain ⟨x8, kr8⟩ := x7.same s8
        obtain ⟨ez1, ez2⟩ := zip_end (t := t) hts
        refine q _ (.mk (.bind "let" bs) (ts ++ [t])) k3 _ ((kr6.trans kr7).trans kr8) x8 ?_ ?_ ?_ ?_
        · refine unview (h := .bind "let" bs) (ds := Tr.encL (ts ++ [t])) (.inl (.inl upd_same)) ⟨t6, acc, [v], rfl, sqt_same s8 (kr7.tup ht6'), ?_, ?_⟩
          · rw [ez1]
            exact dps_same s8 _ _ (dps_keep (fun _ _ z => kr7.tup z) _ _ (rowsL_flat bs ts) ha6)
          · rw [ez2]
            exact .cons (dp_same s8 _ _ hv) .nil
        · refine ⟨⟨by rw [List.length_append, hts]; rfl, by decide +kernel, fun y hy => hso y (hbs y hy)⟩, by rw [List.length_append, hts]; show bs.length + 1 ≤ 11; omega, oks_iff.mpr fun u hu => ?_⟩
          rcases List.mem_append.mp hu with hu | hu
          · exact (hok u hu).1
          · cases List.mem_singleton.mp hu
            exact ok
        · refine Nat.le_trans ((dep_mk (n := 2 + 2 * d1)).mpr fun u hu => ?_) (by omega)
          rcases List.mem_append.mp hu with hu | hu
          · have := (hok u hu).2
            omega
          · cases List.mem_singleton.mp hu
            omega
        · show Tr.sizes (ts ++ [t]) + 1 + 12 * k3 ≤ _
          rw [sizes_snoc]
          omega
      · refine ⟨_, rfl, rfl, _, rfl, iteNe (by decide +kernel) ?_⟩
        refine ⟨_, rfl, rfl, fun H2b s2b => iteIn (ws := ["let", "rec"]) (by decide +kernel) ?_⟩
        obtain ⟨x3, kr3'⟩ := x2.same s2b
        have kr3 := kr2.trans kr3'
        refine ⟨_, rfl, _, rfl, h, c, nm, names, 3, rfl, x3.hand, kr3.tup hn, hnl, by decide, by decide, fun rb bs H3 kh3 hh3 hrb hbl hbs => ?_⟩
        obtain ⟨x4, kr4'⟩ := x3.draw kh3 hh3
        have kr4 := kr3.trans kr4'
        clear kr3' kr4' kh3 hh3 x2 x3
        refine ⟨fun σ' H' => ∃ (rb : Addr) (bs : List Str), σ' = [some (.ref h), some (.int ((d1 + 1 : Nat) : Int)), some (.ref nm), some (.ref r), some (.str "rec"), some (.ref rb), none, none, none, none, none, none, none] ∧ Gn H' h c r k1 ∧ Kr h r H H' ∧ SqT K H' rb (bs.map V.str) ∧ bs.length ≤ 3 ∧ ∀ x ∈ bs, x ∈ names, ?_, ?_⟩
        · refine ⟨_, rfl, by show 0 ≤ sizeLine; decide, fun e0 he0 => ?_⟩
          have s5 := same_new (o := .tup []) he0
          obtain ⟨x5, kr5⟩ := x4.same s5
          refine ⟨encs bs, .tuple [], .tup (sqt_same s5 hrb) (dpAll_strs bs), .tup (.inl (.inl upd_same)) .nil, (lay_strs (fun y hy => hso y (hbs y hy)) 0).sh (by decide), by decide +kernel, _, rfl, ?_⟩
          refine ite2 (fun _ => ?_) (fun _ => ⟨rb, bs, rfl, x5, kr4.trans kr5, sqt_same s5 hrb, by omega, hbs⟩)
          refine ⟨_, rfl, 1, rfl, ?_⟩
          have hpos : 0 < names.length := List.length_pos_iff.mpr hne
          refine sl_to (k := 1) ((kr4.trans kr5).tup hn) (by rw [List.length_map]; omega) fun t6 H6 s6 ht6 => ?_
          obtain ⟨x6, kr6⟩ := x5.same s6
          rw [← List.map_take] at ht6
          exact ⟨t6, names.take 1, rfl, x6, (kr4.trans kr5).trans kr6, ht6, by rw [List.length_take]; omega, fun y hy => List.mem_of_mem_take hy⟩
        clear hbs hbl hrb x4 kr4
        rintro σ' H4 ⟨rb, bs, rfl, x4, kr4, hrb, hbl, hbs⟩
        refine ⟨fun σ' H' => ∃ (L : Addr) (bs : List Str) (acc : List V) (ts : List Tr) (k2 : Nat) (v5 v7 : Option V), σ' = [some (.ref h), some (.int ((d1 + 1 : Nat) : Int)), some (.ref nm), some (.ref r), some (.str "rec"), v5, some (.ref L), v7, none, none, none, none, none] ∧ Gn H' h c r k2 ∧ Kr h r H H' ∧
          H' L = some (.lst acc) ∧ DpAll K H' acc (rowsL bs ts) ∧ ts.length = bs.length ∧ bs.length ≤ 3 ∧ (∀ x ∈ bs, x ∈ names) ∧ (∀ t ∈ ts, t.ok ∧ t.dep ≤ 2 + 2 * d1) ∧ Tr.sizes ts + 12 * k2 ≤ 4 + 12 * k1, ?_, ?_⟩
        · refine ⟨_, rfl, rfl, _, rfl, iteNe (by decide +kernel) ?_⟩
          refine ⟨_, rfl, 2, rfl, ?_⟩
          have sl2 : ∀ {Q : VK}, (∀ t H', Same H4 H' → SqT K H' t ((bs.take 2).map V.str) → Q (.ref t) H') → rSlA K (.ref rb) none (some 2) H4 Q := fun {Q} hq => by
            refine ⟨rb, _, rfl, hrb, fun z => ?_, fun _ p hp => ?_⟩
            · rw [show (2 : Int) = ((2 : Nat) : Int) from rfl, HT.sIx_nat] at z
              refine hq rb H4 (Same.refl _) ?_
              rw [List.map_take, List.take_of_length_le (by have := z.2; omega)]
              exact hrb
            · have e : cutV (bs.map V.str) none (some ((2 : Nat) : Int)) = (bs.take 2).map V.str := by
                unfold cutV
                rw [HT.sIx_nat, HT.sIx_none, List.drop_zero, Nat.sub_zero, List.map_take]
                by_cases q2 : 2 ≤ (bs.map V.str).length
                · rw [Nat.min_eq_left q2]
                · rw [Nat.min_eq_right (by omega), List.take_length, List.take_of_length_le (by omega)]
              refine hq p _ (same_new hp) (.inl (.inl ?_))
              show (upd H4 p (.tup (cutV (bs.map V.str) none (some ((2 : Nat) : Int))))) p = _
              rw [e]
              exact upd_same
          refine sl2 fun rb2 H4b s4b hrb2 => ?_
          obtain ⟨x4b, kr4b'⟩ := x4.same s4b
          have kr4b := kr4.trans kr4b'
          have hl2 : (bs.take 2).length ≤ 2 := by rw [List.length_take]; omega
          have hbs2 : ∀ x ∈ bs.take 2, x ∈ names := fun y hy => hbs y (List.mem_of_mem_take hy)
          generalize bs.take 2 = bs2 at *
          refine ⟨rb2, rfl, ⟨_, hrb2⟩, fun D hD => ?_⟩
          refine lc_gen (K := K) (walk_tup (xs := bs2.map V.str)) (rowsL bs2) (fun i t => rowD ((bs2[i]?).getD "", t.enc)) (2 + 2 * d1) 2 (by simp [rowsL, Tr.encL]) (fun ts t hl => rowsL_snoc (by rw [List.length_map] at hl; exact hl)) (rowsL_flat bs2) x4b hD (by rw [List.length_map]; omega)
            (fun H' kk => kk.tup hrb2) ?_ ?_
          · rintro i y k2 H5 H6 hi kk x5 ⟨rfl, e2⟩ Q1 q1
            obtain ⟨b, eb, rfl⟩ := map_at e2
            refine ⟨rfl, ?_⟩
            refine ⟨_, rfl, _, rfl, _, rfl, _, rfl, _, rfl, h, c, nm, r, names, k2, d1, 2, rfl, x5, (kr4b.trans kk).tup hn, hne, hnl, hso, hdn1, by decide, by decide, fun v t k3 H7 kr7 x7 hv ok dp sz => ?_⟩
            refine ⟨by show 2 ≤ sizeLine; decide, fun p hp => ?_⟩
            have s8 := same_new (o := .tup [.str b, v]) hp
            obtain ⟨x8, kr8⟩ := x7.same s8
            refine q1 _ t k3 _ (kr7.trans kr8) x8 ?_ ok dp (by omega)
            rw [eb]
            exact .tup (.inl (.inl upd_same)) (.cons (.str _) (.cons (dp_same s8 _ _ hv) .nil))
          · intro H5 acc ts k2 kk x5 hacc ha hts hok hsz
            rw [List.length_map] at hts hsz
            exact ⟨D, bs2, acc, ts, k2, _, _, rfl, x5, kr4b.trans kk, hacc, ha, hts, by omega, hbs2, hok, by omega⟩
        rintro σ' H5 ⟨L, bs, acc, ts, k2, v5, v7, rfl, x5, kr5, hL5, ha5, hts, hbl, hbs, hok, hsz⟩
        refine ⟨_, rfl, _, rfl, .inl ⟨L, _, rfl, .inl (.inl hL5), fun t6 ht6 => ?_⟩⟩
        have s6 := same_new (o := .tup acc) ht6
        obtain ⟨x6, kr6'⟩ := x5.same s6
        have kr6 := kr5.trans kr6'
        have ha6 := dps_same s6 _ _ ha5
        have ht6' : SqT K (upd H5 t6 (.tup acc)) t6 acc := .inl (.inl upd_same)
        generalize upd H5 t6 (.tup acc) = H6 at *
        refine ⟨_, rfl, _, rfl, _, _, rfl, rfl, _, rfl, _, rfl, h, c, nm, r, names, k2, d1, argEq _ rfl, x6, kr6.tup hn, hne, hnl, hso, hdn1, fun v t k3 H7 kr7 x7 hv ok dp sz => ?_⟩
        refine ⟨by show 3 ≤ sizeLine; decide, fun p hp => ?_⟩
        have s8 := same_new (o := .tup [.str "rec", .ref t6, v]) hp
        obtain ⟨x8, kr8⟩ := x7.same s8
        obtain ⟨ez1, ez2⟩ := zip_end (t := t) hts
        refine q _ (.mk (.bind "rec" bs) (ts ++ [t])) k3 _ ((kr6.trans kr7).trans kr8) x8 ?_ ?_ ?_ ?_
        · refine unview (h := .bind "rec" bs) (ds := Tr.encL (ts ++ [t])) (.inl (.inl upd_same)) ⟨t6, acc, [v], rfl, sqt_same s8 (kr7.tup ht6'), ?_, ?_⟩
          · rw [ez1]
            exact dps_same s8 _ _ (dps_keep (fun _ _ z => kr7.tup z) _ _ (rowsL_flat bs ts) ha6)
          · rw [ez2]
            exact .cons (dp_same s8 _ _ hv) .nil
        · refine ⟨⟨by rw [List.length_append, hts]; rfl, by decide +kernel, fun y hy => hso y (hbs y hy)⟩, by rw [List.length_append, hts]; show bs.length + 1 ≤ 11; omega, oks_iff.mpr fun u hu => ?_⟩
          rcases List.mem_append.mp hu with hu | hu
          · exact (hok u hu).1
          · cases List.mem_singleton.mp hu
            exact ok
        · refine Nat.le_trans ((dep_mk (n := 2 + 2 * d1)).mpr fun u hu => ?_) (by omega)
          rcases List.mem_append.mp hu with hu | hu
          · have := (hok u hu).2
            omega
          · cases List.mem_singleton.mp hu
            omega
        · show Tr.sizes (ts ++ [t]) + 1 + 12 * k3 ≤ _
          rw [sizes_snoc]
          omega
      · refine ⟨_, rfl, rfl, _, rfl, iteNe (fun z => absurd (z ▸ hw : ("fn" : Str) ∈ oneW) (by decide +kernel)) ?_⟩
        refine ⟨_, rfl, rfl, fun H2b s2b => iteNi (ws := ["let", "rec"]) (fun z => ?_) ?_⟩
        · have key : ∀ w ∈ oneW, ¬ w ∈ (["let", "rec"] : List Str) := by decide +kernel
          exact key _ hw z
        refine ⟨_, rfl, rfl, fun H2c s2c => iteIn (ws := ["set", "keep", "once", "take"]) hw ?_⟩
        obtain ⟨x3, kr3'⟩ := x2.same (s2b.trans s2c)
        have kr3 := kr2.trans kr3'
        refine ⟨_, rfl, _, rfl, _, rfl, h, c, nm, _, rfl, x3.hand, .inr (kr3.tup hn), ?_, by rw [List.length_map]; omega, fun v H4 hv kh4 hh4 => ?_⟩
        · intro e
          exact hne (List.map_eq_nil_iff.mp e)
        obtain ⟨y, hy, rfl⟩ := mem_str hv
        obtain ⟨x4, kr4'⟩ := x3.draw kh4 hh4
        have kr4 := kr3.trans kr4'
        refine ⟨_, rfl, _, rfl, _, _, rfl, rfl, _, rfl, _, rfl, h, c, nm, r, names, k1, d1, argEq _ rfl, x4, kr4.tup hn, hne, hnl, hso, hdn1, fun v t k3 H7 kr7 x7 hv ok dp sz => ?_⟩
        refine ⟨by show 3 ≤ sizeLine; decide, fun p hp => ?_⟩
        have s8 := same_new (o := .tup [.str wd0, .str y, v]) hp
        obtain ⟨x8, kr8⟩ := x7.same s8
        refine q _ (.mk (.one wd0 y) [t]) k3 _ ((kr4.trans kr7).trans kr8) x8 ?_ ?_ ?_ ?_
        · exact unview (h := .one wd0 y) (ds := [t.enc]) (.inl (.inl upd_same)) ⟨[v], rfl, .cons (dp_same s8 _ _ hv) .nil⟩
        · exact ⟨⟨rfl, hw, hso y hy⟩, by show 1 ≤ 11; decide, ok, trivial⟩
        · show max t.dep 0 + 1 ≤ _
          omega
        · show t.size + 0 + 1 + 12 * k3 ≤ _
          omega
      · refine ⟨_, rfl, rfl, _, rfl, iteNe (by decide +kernel) ?_⟩
        refine ⟨_, rfl, rfl, fun H2b s2b => iteNi (ws := ["let", "rec"]) (by decide +kernel) ?_⟩
        refine ⟨_, rfl, rfl, fun H2c s2c => iteNi (ws := ["set", "keep", "once", "take"]) (by decide +kernel) ?_⟩
        refine ⟨_, rfl, rfl, _, rfl, iteEq rfl ?_⟩
        refine ⟨_, rfl, by show 17 ≤ sizeLine; decide, fun to hto => ?_⟩
        obtain ⟨x3, kr3'⟩ := x2.same ((s2b.trans s2c).trans (same_new (o := .tup (opW.map V.str)) hto))
        have kr3 := kr2.trans kr3'
        refine ⟨h, c, to, opW.map V.str, rfl, x3.hand, .inr (.inl (.inl upd_same)), by decide, by decide, fun v H4 hv kh4 hh4 => ?_⟩
        obtain ⟨o, ho, rfl⟩ := mem_str hv
        obtain ⟨x4, kr4'⟩ := x3.draw kh4 hh4
        have kr4 := kr3.trans kr4'
        have oso : sok o := by
          have key : ∀ w ∈ opW, sok w := by decide +kernel
          exact key o ho
        refine ⟨fun σ' H' => ∃ m : Nat, σ' = [some (.ref h), some (.int ((d1 + 1 : Nat) : Int)), some (.ref nm), some (.ref r), some (.str "op"), none, none, none, some (.str o), some (.int (m : Nat)), none, none, none] ∧ m ≤ 2 ∧ Gn H' h c r k1 ∧ Kr h r H H', ?_, ?_⟩
        · refine ⟨_, rfl, rfl, fun H5 s5 => ?_⟩
          obtain ⟨x5, kr5⟩ := x4.same s5
          exact ite2 (fun _ => ⟨1, rfl, by decide, x5, kr4.trans kr5⟩) (fun _ => ⟨2, rfl, by decide, x5, kr4.trans kr5⟩)
        clear x3 kr3' kr3 x4 kr4' kr4 hv kh4 hh4
        rintro σ' H4 ⟨m, rfl, hm, x4, kr4⟩
        refine ⟨_, rfl, _, rfl, _, rfl, by omega, by omega, fun D hD => ?_⟩
        refine lc_gen (K := K) (walk_range (lo := 0) (n := m)) Tr.encL (fun _ t => t.enc) (1 + 2 * d1) 1 rfl (fun ts t _ => encL_snoc t ts) flat_encL x4 hD (by omega) (fun _ _ => trivial) ?_ ?_
        · rintro i y k4 H5 H6 hi kk xg ⟨rfl, rfl⟩ Q1 q1
          refine ⟨rfl, ?_⟩
          exact ⟨_, rfl, _, rfl, _, _, rfl, rfl, _, rfl, _, rfl, h, c, nm, r, names, k4, d1, argEq _ rfl, xg, (kr4.trans kk).tup hn, hne, hnl, hso, hdn1, q1⟩
        · intro H5 acc ts k4 kk x5 hacc ha hts hok hsz
          refine .inl ⟨D, _, rfl, .inl (.inl hacc), fun t6 ht6 => ?_⟩
          have s6 := same_new (o := .tup acc) ht6
          refine ⟨by show 3 ≤ sizeLine; decide, fun p hp => ?_⟩
          have s7 := same_new (o := .tup [.str "op", .str o, .ref t6]) hp
          obtain ⟨x8, kr8⟩ := x5.same (s6.trans s7)
          refine q _ (.mk (.op o) ts) k4 _ ((kr4.trans kk).trans kr8) x8 ?_ ?_ ?_ ?_
          · exact unview (h := .op o) (.inl (.inl upd_same)) ⟨t6, acc, rfl, sqt_same s7 (.inl (.inl upd_same)), dps_same (s6.trans s7) _ _ ha⟩
          · exact ⟨oso, by omega, oks_iff.mpr fun u hu => (hok u hu).1⟩
          · refine Nat.le_trans ((dep_mk (n := 2 + 2 * d1)).mpr fun u hu => ?_) (by omega)
            have := (hok u hu).2
            omega
          · show Tr.sizes ts + 1 + 12 * k4 ≤ _
            omega
      · refine ⟨_, rfl, rfl, _, rfl, iteNe (by decide +kernel) ?_⟩
        refine ⟨_, rfl, rfl, fun H2b s2b => iteNi (ws := ["let", "rec"]) (by decide +kernel) ?_⟩
        refine ⟨_, rfl, rfl, fun H2c s2c => iteNi (ws := ["set", "keep", "once", "take"]) (by decide +kernel) ?_⟩
        refine ⟨_, rfl, rfl, _, rfl, iteNe (by decide +kernel) ?_⟩
        refine ⟨_, rfl, rfl, _, rfl, iteEq rfl ?_⟩
        obtain ⟨x3, kr3'⟩ := x2.same (s2b.trans s2c)
        have kr3 := kr2.trans kr3'
        refine ⟨_, rfl, _, rfl, _, _, rfl, rfl, _, rfl, _, rfl, h, c, nm, r, names, k1, d1, argEq _ rfl, x3, kr3.tup hn, hne, hnl, hso, hdn1, fun v0 t0 k2 H4 kr4' x4 hv0 ok0 dp0 sz0 => ?_⟩
        have kr4 := kr3.trans kr4'
        refine ⟨_, rfl, by show 4 ≤ sizeLine; decide, fun tq htq => ?_⟩
        have s5 := same_new (o := .tup [.int 0, .int 1, .int 2, .int 10]) htq
        obtain ⟨x5, kr5'⟩ := x4.same s5
        have kr5 := kr4.trans kr5'
        have htq5 : SqT K (upd H4 tq (.tup [.int 0, .int 1, .int 2, .int 10])) tq [.int 0, .int 1, .int 2, .int 10] := .inl (.inl upd_same)
        have hv5 := dp_same s5 _ _ hv0
        generalize upd H4 tq (.tup [.int 0, .int 1, .int 2, .int 10]) = H5 at *
        refine ⟨_, rfl, h, c, _, rfl, x5.hand, by decide, by decide, fun j H6 j0 j1 kh6 hh6 => ?_⟩
        obtain ⟨x6, kr6'⟩ := x5.draw kh6 hh6
        have kr6 := kr5.trans kr6'
        obtain ⟨m, hm, em⟩ : ∃ m : Nat, m ≤ 10 ∧ atI [V.int 0, .int 1, .int 2, .int 10] j = some (.int (m : Nat)) := by
          have : j = 0 ∨ j = 1 ∨ j = 2 ∨ j = 3 := by omega
          rcases this with rfl | rfl | rfl | rfl
          · exact ⟨0, by decide, atI_nat (j := 0) rfl⟩
          · exact ⟨1, by decide, atI_nat (j := 1) rfl⟩
          · exact ⟨2, by decide, atI_nat (j := 2) rfl⟩
          · exact ⟨10, by decide, atI_nat (j := 3) rfl⟩
        refine ⟨tq, _, _, _, rfl, rfl, kh6.tup htq5, em, _, rfl, by omega, by omega, fun D hD => ?_⟩
        have hv6 := dp_keep (fun _ _ z => kh6.tup z) _ _ (flat_enc t0) hv5
        refine lc_gen (K := K) (walk_range (lo := 0) (n := m)) Tr.encL (fun _ t => t.enc) (1 + 2 * d1) 1 rfl (fun ts t _ => encL_snoc t ts) flat_encL x6 hD (by omega) (fun _ _ => trivial) ?_ ?_
        · rintro i y k4 H7 H8 hi kk xg ⟨rfl, rfl⟩ Q1 q1
          refine ⟨rfl, ?_⟩
          exact ⟨_, rfl, _, rfl, _, _, rfl, rfl, _, rfl, _, rfl, h, c, nm, r, names, k4, d1, argEq _ rfl, xg, (kr6.trans kk).tup hn, hne, hnl, hso, hdn1, q1⟩
        · intro H7 acc ts k4 kk x7 hacc ha hts hok hsz
          refine .inl ⟨D, _, rfl, .inl (.inl hacc), fun t6 ht6 => ?_⟩
          have s6 := same_new (o := .tup acc) ht6
          refine ⟨by show 3 ≤ sizeLine; decide, fun p hp => ?_⟩
          have s7 := same_new (o := .tup [.str "call", v0, .ref t6]) hp
          obtain ⟨x8, kr8⟩ := x7.same (s6.trans s7)
          have hv7 := dp_same (s6.trans s7) _ _ (dp_keep (fun _ _ z => kk.tup z) _ _ (flat_enc t0) hv6)
          refine q _ (.mk .call (t0 :: ts)) k4 _ ((kr6.trans kk).trans kr8) x8 ?_ ?_ ?_ ?_
          · exact unview (h := .call) (ds := Tr.encL (t0 :: ts)) (.inl (.inl upd_same)) ⟨t6, [v0], acc, rfl, .cons hv7 .nil, sqt_same s7 (.inl (.inl upd_same)), dps_same (s6.trans s7) _ _ ha⟩
          · exact ⟨Nat.succ_le_succ (Nat.zero_le _), by show ts.length + 1 ≤ 11; omega, ok0, oks_iff.mpr fun u hu => (hok u hu).1⟩
          · refine Nat.le_trans ((dep_mk (n := 2 + 2 * d1)).mpr fun u hu => ?_) (by omega)
            rcases List.mem_cons.mp hu with rfl | hu
            · omega
            · have := (hok u hu).2
              omega
          · show t0.size + Tr.sizes ts + 1 + 12 * k4 ≤ _
            omega
      · have no : ∀ y : Str, y ∉ lastW → ¬ wd0 = y := fun y hy z => hy (z ▸ hw)
        have noIn : ∀ ws : List Str, (∀ y ∈ lastW, ¬ y ∈ ws) → ¬ wd0 ∈ ws := fun ws hy => hy wd0 hw
        refine ⟨_, rfl, rfl, _, rfl, iteNe (no _ (by decide +kernel)) ?_⟩
        refine ⟨_, rfl, rfl, fun H2b s2b => iteNi (ws := ["let", "rec"]) (noIn _ (by decide +kernel)) ?_⟩
        refine ⟨_, rfl, rfl, fun H2c s2c => iteNi (ws := ["set", "keep", "once", "take"]) (noIn _ (by decide +kernel)) ?_⟩
        refine ⟨_, rfl, rfl, _, rfl, iteNe (no _ (by decide +kernel)) ?_⟩
        refine ⟨_, rfl, rfl, _, rfl, iteNe (no _ (by decide +kernel)) ?_⟩
        obtain ⟨x3, kr3'⟩ := x2.same (s2b.trans s2c)
        have kr3 := kr2.trans kr3'
        refine ⟨fun σ' H' => ∃ m : Nat, σ' = [some (.ref h), some (.int ((d1 + 1 : Nat) : Int)), some (.ref nm), some (.ref r), some (.str wd0), none, none, none, none, some (.int (m : Nat)), none, none, none] ∧ m ≤ 10 ∧ Gn H' h c r k1 ∧ Kr h r H H', ?_, ?_⟩
        · refine fun p hp => ?_
          have s4 := same_new (o := .dK []) hp
          have nD := x3.hand.there hp
          have nDr : p ≠ r := (ne_of_none x3.rm hp).symm
          obtain ⟨x4, kr4'⟩ := x3.same s4
          have ep : (upd H2c p (.dK [])) p = some (.dK []) := upd_same
          generalize upd H2c p (.dK []) = H4 at *
          refine ⟨by show 4 ≤ sizeLine; decide, fun tq htq => ?_⟩
          have s5 := same_new (o := .tup [.int 1, .int 2, .int 3, .int 10]) htq
          obtain ⟨x5, kr5'⟩ := x4.same s5
          have kr5 := kr4'.trans kr5'
          have htq5 : SqT K (upd H4 tq (.tup [.int 1, .int 2, .int 3, .int 10])) tq [.int 1, .int 2, .int 3, .int 10] := .inl (.inl upd_same)
          have ep5 := s5 _ _ ep
          generalize upd H4 tq (.tup [.int 1, .int 2, .int 3, .int 10]) = H5 at *
          refine ⟨_, rfl, h, c, _, rfl, x5.hand, by decide, by decide, fun j H6 j0 j1 kh6 hh6 => ?_⟩
          obtain ⟨x6, kr6'⟩ := x5.draw kh6 hh6
          have kr6 := kr5.trans kr6'
          have ep6 := kh6.st _ _ nD.1 ep5
          obtain ⟨m, hm, em⟩ : ∃ m : Nat, m ≤ 10 ∧ atI [V.int 1, .int 2, .int 3, .int 10] j = some (.int (m : Nat)) := by
            have : j = 0 ∨ j = 1 ∨ j = 2 ∨ j = 3 := by omega
            rcases this with rfl | rfl | rfl | rfl
            · exact ⟨1, by decide, atI_nat (j := 0) rfl⟩
            · exact ⟨2, by decide, atI_nat (j := 1) rfl⟩
            · exact ⟨3, by decide, atI_nat (j := 2) rfl⟩
            · exact ⟨10, by decide, atI_nat (j := 3) rfl⟩
          refine ⟨tq, _, _, _, rfl, rfl, kh6.tup htq5, em, ep6, manyK m, rfl, by show 5 ≤ 15; decide, _, rfl, p, ?_⟩
          obtain ⟨m2, hm2, e2⟩ := many_at hm wd0 hw
          have hg : DGet (upd H6 p (.dK (mergeK [] (manyK m)))) p (.str wd0) (valV (mergeK [] (manyK m)) (Sum.inr wd0)) := DGet.k (k := Sum.inr wd0) upd_same
          rw [e2] at hg
          refine ⟨_, rfl, hg, m2, rfl, hm2, x6.puts nD.1 nD.2 nDr, ?_⟩
          have kz : Kr h r H2c (upd H6 p (.dK (mergeK [] (manyK m)))) := Kp.mut kr6 hp
          exact kr3.trans kz
        clear x3 kr3' kr3
        rintro σ' H4 ⟨m, rfl, hm, x4, kr4⟩
        refine ⟨_, rfl, _, rfl, by omega, by omega, fun D hD => ?_⟩
        refine lc_gen (K := K) (walk_range (lo := 0) (n := m)) Tr.encL (fun _ t => t.enc) (1 + 2 * d1) 1 rfl (fun ts t _ => encL_snoc t ts) flat_encL x4 hD (by omega) (fun _ _ => trivial) ?_ ?_
        · rintro i y k4 H5 H6 hi kk xg ⟨rfl, rfl⟩ Q1 q1
          refine ⟨rfl, ?_⟩
          exact ⟨_, rfl, _, rfl, _, _, rfl, rfl, _, rfl, _, rfl, h, c, nm, r, names, k4, d1, argEq _ rfl, xg, (kr4.trans kk).tup hn, hne, hnl, hso, hdn1, q1⟩
        · intro H5 acc ts k4 kk x5 hacc ha hts hok hsz
          refine .inl ⟨D, _, rfl, .inl (.inl hacc), fun t6 ht6 => ?_⟩
          have s6 := same_new (o := .tup acc) ht6
          have hal := DpAll.len ha
          rw [encL_len] at hal
          refine ⟨_, rfl, rfl, _, rfl, ?_⟩
          by_cases hdo : wd0 = "do"
          · refine iteEq hdo ⟨_, rfl, by show 2 ≤ sizeLine; decide, fun p hp => ?_⟩
            have s7 := same_new (o := .tup [.str "do", .ref t6]) hp
            obtain ⟨x8, kr8⟩ := x5.same (s6.trans s7)
            refine q _ (.mk .doo ts) k4 _ ((kr4.trans kk).trans kr8) x8 ?_ ?_ ?_ ?_
            · exact unview (h := .doo) (.inl (.inl upd_same)) ⟨t6, acc, rfl, sqt_same s7 (.inl (.inl upd_same)), dps_same (s6.trans s7) _ _ ha⟩
            · exact ⟨trivial, by omega, oks_iff.mpr fun u hu => (hok u hu).1⟩
            · refine Nat.le_trans ((dep_mk (n := 2 + 2 * d1)).mpr fun u hu => ?_) (by omega)
              have := (hok u hu).2
              omega
            · show Tr.sizes ts + 1 + 12 * k4 ≤ _
              omega
          · refine iteNe hdo ⟨_, rfl, by show 1 ≤ sizeLine; decide, fun p hp => ⟨_, rfl, ?_⟩⟩
            have s7 := same_new (o := .tup [.str wd0]) hp
            refine cat_any (.inl (.inl upd_same)) (sqt_same s7 (.inl (.inl upd_same))) (Nat.le_trans (show 1 + acc.length ≤ 100 by omega) (by decide)) fun p2 H8 s8 hp2 => ?_
            obtain ⟨x8, kr8⟩ := x5.same ((s6.trans s7).trans s8)
            have hpw : wd0 ∈ plainW := by
              have key : ∀ y ∈ lastW, ¬ y = "do" → y ∈ plainW := by decide +kernel
              exact key _ hw hdo
            refine q _ (.mk (.plain wd0) ts) k4 _ ((kr4.trans kk).trans kr8) x8 ?_ ?_ ?_ ?_
            · exact unview (h := .plain wd0) hp2 ⟨acc, rfl, dps_same ((s6.trans s7).trans s8) _ _ ha⟩
            · exact ⟨hpw, by omega, oks_iff.mpr fun u hu => (hok u hu).1⟩
            · refine Nat.le_trans ((dep_mk (n := 2 + 2 * d1)).mpr fun u hu => ?_) (by omega)
              have := (hok u hu).2
              omega
            · show Tr.sizes ts + 1 + 12 * k4 ≤ _
              omega
end
end K02

/-! paths as data: equality, being in a list -/
namespace Cm
open PySem L2 PySem.Spec PyProof.Rows
theorem eqvAll_intsP : ∀ a b : List Int, PyData.eqvAll (a.map PyData.int) (b.map PyData.int) = decide (a = b)
  | [], [] => by simp [PyData.eqvAll]
  | [], b :: bs => by simp [PyData.eqvAll]
  | a :: as, [] => by simp [PyData.eqvAll]
  | a :: as, b :: bs => by
    have ih := eqvAll_intsP as bs
    simp only [List.map_cons, PyData.eqvAll, PyData.eqv, ih]
    by_cases h : a = b
    · by_cases h2 : as = bs <;> simp [h, h2]
    · simp [h]
theorem eqv_path (a b : List Int) : PyData.eqv (pathI a) (pathI b) = decide (a = b) := by
  have := eqvAll_intsP a b
  simp only [pathI, PyData.eqv]
  exact this
theorem any_path (S : List (List Int)) (p : List Int) : ((S.map pathI).any fun z => PyData.eqv z (pathI p)) = decide (p ∈ S) := by
  induction S with
  | nil => rfl
  | cons s S ih =>
    rw [List.map_cons, List.any_cons, ih, eqv_path]
    by_cases h : s = p
    · simp [h]
    · have : ¬ p = s := fun z => h z.symm
      simp [h, this]
theorem lay_path (p : List Int) : Lay 1 (pathI p) := Lay.tup (n := 0) fun d hd => by
  obtain ⟨i, _, rfl⟩ := List.mem_map.mp hd
  exact .int i 0
theorem lay_paths (S : List (List Int)) : Lay 2 (.list (S.map pathI)) := Lay.lst fun d hd => by
  obtain ⟨i, _, rfl⟩ := List.mem_map.mp hd
  exact lay_path i
theorem lay_pathsT (S : List (List Int)) : Lay 2 (.tuple (S.map pathI)) := Lay.tup fun d hd => by
  obtain ⟨i, _, rfl⟩ := List.mem_map.mp hd
  exact lay_path i
theorem ko_notInD {X : Cx} {K : PySem.W.Frag} (hu : X.A.units + 65 < cLine) (h : X.K = K := by rfl) : OpR X (compareOp .NotIn) (rNotInD K) := by subst h; exact op_notInD hu
theorem ko_inD {X : Cx} {K : PySem.W.Frag} (hu : X.A.units + 65 < cLine) (h : X.K = K := by rfl) : OpR X (compareOp .In) (rInD K) := by subst h; exact op_inD hu
def rListOf (K : PySem.W.Frag) : List V → Hp → VK → Prop := fun xs H Q => ∃ p ys, xs = [.ref p] ∧ (SqL K H p ys ∨ SqT K H p ys) ∧ ∀ l, H l = Option.none → Q (.ref l) (upd H l (.lst ys))
theorem kc_listOf {X : Cx} {K : PySem.W.Frag} (h : X.K = K := by rfl) : CallR X (.type "list") (rListOf K) := by subst h; exact call_list_of
theorem room65 {k : Nat} {A : Around} (r : Room k A) : A.units + 65 < cLine := by have := r.un; omega
end Cm

/-! an exception that is caught and kept as a value -/
namespace Cm
open PySem L2 PySem.Spec PyProof.Rows
/-- an exception object at a: its class, its dict -/
def ExH (a : Addr) (cls : Value) (d : Option Addr) : HO := .ext fun h => ∃ (o : Obj) (vs : Array Value), h.get? a = some o ∧ Zc cls d o ∧ o.data = .fields vs
theorem exH_ok {P : Program} {w : World} {H : Hp} {h : Heap} {a : Addr} {cls : Value} {d : Option Addr} {o : Obj} {vs : Array Value} (e : h.get? a = some o) (z : Zc cls d o) (f : o.data = .fields vs) : ObjOk P w H h a (ExH a cls d) :=
  ⟨⟨o, vs, e, z, f⟩, ⟨o, e⟩, fun h1 h2 ⟨o', vs', e', z', f'⟩ k => ⟨o', vs', k _ e', z', f'⟩⟩
theorem exH_at {P : Program} {w : World} {H : Hp} {h : Heap} {a : Addr} {cls : Value} {d : Option Addr} (hok : HOk P w H h) (e : H a = some (ExH a cls d)) : ∃ (o : Obj) (vs : Array Value), h.get? a = some o ∧ Zc cls d o ∧ o.data = .fields vs := by
  have x : ObjOk P w H h a (ExH a cls d) := hok a _ e
  exact x.1
section
variable {X : Cx} {pins : List (Addr × Obj)} {σ : L2.St} {H : Hp} {s : Shared}
theorem track {a : Addr} {o : HO} (I : Inv X pins σ H s) (na : H a = Option.none) (n0 : X.s_0.heap.get? a = Option.none) (nL : a ≠ X.env.locals) (nC : ∀ x c, X.env.cells.lookup x = some c → c ≠ a) (nP : ∀ p ∈ X.pn ++ pins, p.1 ≠ a)
    (new : ObjOk X.prog X.w (upd H a o) s.heap a o) : Inv X pins σ (upd H a o) s := by
  have other : ∀ {b : Addr} {u : HO}, H b = some u → (upd H a o) b = some u := fun {b u} e => by
    rw [upd_ne (ne_of_none e na)]
    exact e
  refine ⟨I.ok, I.os, I.bare, ⟨I.base.keep, I.base.slot, fun b u e n hx => ?_, I.base.there, fun b xs e => other (I.base.tups b xs e), fun b u xs e => other (I.base.frzs b u xs e), fun b ps e => ?_⟩, I.loc, I.cell, ?_, fun x c e => ?_, fun p hp => ?_, fun b u e => ?_, I.len⟩
  · have hb : b ≠ a := fun z => by
      rw [z, n0] at e
      cases e
    rw [upd_ne hb]
    exact I.base.free b u e n hx
  · obtain ⟨more, q⟩ := I.base.tbls b ps e
    exact ⟨more, other q⟩
  · rw [upd_ne nL.symm]
    exact I.free
  · rw [upd_ne (nC x c e)]
    exact I.freeC x c e
  · obtain ⟨e, n, ne, nf, dd⟩ := I.pin p hp
    exact ⟨e, by rw [upd_ne (nP p hp)]; exact n, ne, nf, dd⟩
  · by_cases hb : b = a
    · subst hb
      rw [upd_same] at e
      cases e
      exact new
    · rw [upd_ne hb] at e
      exact (I.hok b u e).stay (fun c v _ q => q) (fun c q => other q) fun c xs q => other q
theorem suite0 (I : Inv X pins σ H s) (a : Addr) : Inv (X.suite a (X.pn ++ pins)) [] σ H s :=
  ⟨I.ok.suite _ _, I.os, I.bare, I.base, I.loc, I.cell, I.free, I.freeC, fun p hp => I.pin p (by rw [List.append_nil] at hp; exact hp), I.hok, I.len⟩
theorem unsuite0 {a : Addr} {pn' : List (Addr × Obj)} (I : Inv (X.suite a (X.pn ++ pins)) pn' σ H s) (ok : X.Ok) : Inv X pins σ H s :=
  ⟨ok, I.os, I.bare, I.base, I.loc, I.cell, I.free, I.freeC, fun p hp => I.pin p (List.mem_append_left _ hp), I.hok, I.len⟩
end
/-- what the clause asks where the caught exception is kept -/
def wHeld (K : PySem.W.Frag) (c : Value) (i : Nat) (ts : Addr → TS) (D : Ends) : WX := fun cls d σ H =>
  PySem.W.exmOne K cls c = some true ∧ ∀ a, H a = Option.none → ts a { nx := fun σ' H' => D.nx (σ'.set i Option.none) H', rt := D.rt, bk := fun σ' H' => D.bk (σ'.set i Option.none) H', ct := fun σ' H' => D.ct (σ'.set i Option.none) H' } (σ.set i (some (.ref a))) (upd H a (ExH a cls d))
section
variable {X : Cx} {x n : Str} {c : Value} {i : Nat} {body suite : List Stmt} {b₀ : Stmt} {np pos pos' : Pos} {tb : WX → TS} {ts : Addr → TS}
theorem ps_try_held (hs : X.stack = X.env :: X.outer) (hf : X.env.frame = some X.env.locals) (hN : X.N.Nodup) (hi : X.N[i]? = some n) (hln : X.env.kindOf n = some .local) (hc : Names X x c) (hex : X.ex = [])
    (hb : ∀ (W : WX) (pn : List (Addr × Obj)) (xe : Value → Shared → Prop), Takes (X.tr pn xe) W → PassesOwn (model X.prog X.w) X.A X.env xe → PSs (X.tr pn xe) body (tb W))
    (hsu : ∀ (a : Addr) (pn : List (Addr × Obj)), PSs (X.suite a pn) (b₀ :: suite) (ts a)) :
    PS X (.Try body [.ExceptHandler (some (.Name x np)) (some n) (b₀ :: suite) pos'] [] [] pos) (fun D σ H => tb (wHeld X.K c i ts D) D σ H) := by
  refine ⟨fun pins s σ H D I h => ?_⟩
  have ok := I.ok
  have hfr : X.A.frames = some (X.env :: X.outer) := by rw [ok.frames, hs]
  refine wpAny_Try_except ?_
  refine wpAny_mono ((hb (wHeld X.K c i ts D) (X.pn ++ pins) (fun e s₁ => wpAny (model X.prog X.w) X.A (noteFrame e X.env) (fun _ s₂ => wpAny (model X.prog X.w) X.A (setFlight e Option.none) (fun _ s₃ =>
    wpAny (model X.prog X.w) X.A (handleBy e X.env [.ExceptHandler (some (.Name x np)) (some n) (b₀ :: suite) pos']) (SP X pins D) X.xe s₃) X.xe s₂) X.xe s₁) (fun u s' xx => ?_) PassesOwn.looking).run [] s σ H D (I.toTry _) h) (fun f s1 hsp => ?_) (fun e s1 he => he)
  · obtain ⟨a, B, sI, pins', σ', H', cls, d, rfl, J', nb, up, sky, na, os, ag, hb1, hyes⟩ := xx
    have J : Inv X pins σ' H' sI := J'.ofTry ok
    have sky' : Sky B (X.env :: X.outer) a (Zc cls d) X.env.locals s'.heap := by rw [← hs]; exact sky
    show wpAny _ _ (noteFrame (.ref a) X.env) _ _ _
    refine Sky.land Zc.steady hfr hf sky' fun h3 fl3 up3 => ?_
    have J3 : Inv X pins σ' H' { s' with heap := h3 } := J.landed nb fl3.1 (up.trans up3) os ag
    obtain ⟨oe3, vs3, he3, hz3, hd3⟩ := fl3.there
    have nfr : a ∉ frs X.stack := fun hm => by
      rw [hs] at hm
      obtain ⟨_, o', e', hnf⟩ := fl3.2.2.1.mem hm
      rw [he3] at e'
      cases e'
      exact hnf _ hd3
    have nsI : sI.heap.get? a = Option.none := by
      cases q : sI.heap.get? a with
      | none => rfl
      | some o =>
        have z := nb a o q nfr
        rw [fl3.2.1] at z
        cases z
    have n0 : X.s_0.heap.get? a = Option.none := by
      cases q : X.s_0.heap.get? a with
      | none => rfl
      | some o =>
        obtain ⟨o', z⟩ := J.base.there a o q (by rw [hex]; exact List.not_mem_nil)
        rw [nsI] at z
        cases z
    have nL : a ≠ X.env.locals := fun z => nfr (by
      rw [hs]
      exact List.mem_filterMap.mpr ⟨X.env, List.mem_cons_self, by rw [hf, z]⟩)
    have nC : ∀ y c, X.env.cells.lookup y = some c → c ≠ a := fun y c e z => by
      obtain ⟨v, o, ho, _⟩ := J.cell y c e
      rw [z, nsI] at ho
      cases ho
    have nP : ∀ p ∈ X.pn ++ pins, p.1 ≠ a := fun p hp z => by
      have q := (J.pin p hp).1
      rw [z, nsI] at q
      cases q
    have S3 := suite0 J3 a
    refine wpAny_handleBy_cons (codeAny_handlers_test ?_) (by intro q; cases q)
    have LT : PySem.W.Looks (model X.prog X.w) h3 (typeOf (.ref a)) cls := fun A Q E s k q => wpAny_typeOf_ref (k _ _ he3) (by rw [hz3.1]; exact q)
    have LM := PySem.W.exm_one (M := model X.prog X.w) (J3.kIn) LT hb1
    have test : ∀ {Q : Value → Shared → Prop} {E : Value → Shared → Prop}, Q c { s' with heap := h3 } → wpAny (model X.prog X.w) (X.A.mark (some (.ref a))) (eval (.Name x np) X.env) Q E { s' with heap := h3 } := fun {Q E} q => by
      obtain ⟨hg, hdbg, hm | ⟨hm, hv, hnn⟩⟩ := hc
      · exact ld_glob (X := X.suite a (X.pn ++ pins)) S3 hg hm q hdbg
      · exact ld_blt (X := X.suite a (X.pn ++ pins)) S3 hg hm hv q hnn hdbg
    refine test (LM.here ?_)
    refine codeAny_handlers_suite_as ?_
    refine HandSPX.lands_againZ fl3 fun h4 fl4 up4 => ?_
    have J4 : Inv X pins σ' H' { s' with heap := h4 } := J.landed nb fl4.1 ((up.trans up3).trans up4) os ag
    obtain ⟨oe4, vs4, he4, hz4, hd4⟩ := fl4.there
    have T4 := track (o := ExH a cls d) J4 na n0 nL nC nP (exH_ok he4 hz4 hd4)
    have S4 := suite0 T4 a
    refine store_ok (X := X.suite a (X.pn ++ pins)) (v := .ref a) S4 hN hi (.inl hln) rfl (fun s5 S5 => ?_) (.inr hln)
    refine wpAny_mono ((hsu a (X.pn ++ pins)).run [] s5 _ _ _ S5 (hyes a na)) (fun f s6 hsp => ?_) (fun _ _ z => False.elim z)
    have end_ : ∀ {σ6 : L2.St} {H6 : Hp} {Q : Shared → Prop}, Inv (X.suite a (X.pn ++ pins)) [] σ6 H6 s6 → (∀ s7, Inv X pins (σ6.set i Option.none) H6 s7 → Q s7) →
        wpAny (model X.prog X.w) X.A (do bindName X.env n .none; unbindBehindTheSuite X.env n pos') (fun _ s7 => Q s7) X.xe s6 := fun {σ6 H6 Q} S6 hq => gone_ok (unsuite0 S6 ok) hN hi hln hq
    cases f with
    | next =>
      obtain ⟨σ6, H6, S6, q6⟩ := hsp
      exact end_ S6 fun s7 J7 => ⟨_, _, J7, q6⟩
    | brk =>
      obtain ⟨σ6, H6, S6, q6⟩ := hsp
      exact end_ S6 fun s7 J7 => ⟨_, _, J7, q6⟩
    | cont =>
      obtain ⟨σ6, H6, S6, q6⟩ := hsp
      exact end_ S6 fun s7 J7 => ⟨_, _, J7, q6⟩
    | ret u =>
      obtain ⟨v6, σ6, H6, S6, r6, q6⟩ := hsp
      exact end_ S6 fun s7 J7 => ⟨_, _, _, J7, r6, q6⟩
  · cases f with
    | next =>
      obtain ⟨σ', H', J', q⟩ := hsp
      exact wpAny_execs_nil ⟨σ', H', J'.ofTry ok, q⟩
    | brk =>
      obtain ⟨σ', H', J', q⟩ := hsp
      exact ⟨σ', H', J'.ofTry ok, q⟩
    | cont =>
      obtain ⟨σ', H', J', q⟩ := hsp
      exact ⟨σ', H', J'.ofTry ok, q⟩
    | ret u =>
      obtain ⟨v, σ', H', J', r, q⟩ := hsp
      exact ⟨v, σ', H', J'.ofTry ok, r, q⟩
end
/-! ### isinstance(x, C), x a kept exception of just that class -/
theorem ans_same {x t : Value} {P : Heap → Prop} (ty : ∀ (M : Model) (h : Heap), P h → PySem.W.Looks M h (typeOf x) t) : Answers (fun s => P s.heap) x t true := by
  intro dep tk prog w A R s hs
  obtain ⟨h0, g, d, tt, os⟩ := s
  obtain ⟨p, hq⟩ := hs
  have LT := ty (model prog w) h0 p
  unfold Builtin.«isinstance.nested»
  refine wpAny_bind (LT.at ?_)
  have q : (t == t) = true := beq_self_eq_true t
  rw [if_pos q]
  first
    | exact wpAny_bind (wpAny_rule (hq tt))
    | exact wpAny_bind (wpAny_rule (wpAny_pure (hq tt)))
    | exact wpAny_pure (hq tt)
def rIsX : List V → Hp → VK → Prop := fun xs H Q => ∃ (a C : Addr) (d : Option Addr), xs = [.ref a, .ref C] ∧ H a = some (ExH a (.ref C) d) ∧ Q (.bl true) H
theorem call_isX {X : Cx} : CallR X (.builtin "isinstance") rIsX := by
  intro pins s σ H xs us Q I r h
  obtain ⟨a, C, d, rfl, e, q⟩ := h
  obtain ⟨u1, u2, rfl, r1, r2⟩ := vals2 r
  obtain rfl : u1 = Value.ref a := r1
  obtain rfl : u2 = Value.ref C := r2
  obtain ⟨o, vs, ho, z, f⟩ := exH_at I.hok e
  refine call_isinstance (S := fun _ R s => (∃ o, s.heap.get? a = some o ∧ o.cls = .ref C) ∧ ∀ tk, R (.ok (.ret (.bool true))) { s with toks := tk })
    (fun prog w A R s hs => isinstance_outer (ans_same (P := fun h => ∃ o, h.get? a = some o ∧ o.cls = .ref C) (fun M h ⟨o, e, c⟩ => fun A Q E s k q => wpAny_typeOf_ref (k _ _ e) (by rw [c]; exact q)) 0 _ prog w A R s hs) (fun z => nomatch z)) ⟨⟨o, ho, z.1⟩, fun tk => ⟨.bl true, H, I.tok tk, rfl, q⟩⟩
/-! ### x.f, x a kept exception -/
def tFldX (K : PySem.W.Frag) (f : Str) (te : TE) : TE := fun σ H Q => te σ H fun x H1 => ∃ (a C dd : Addr) (fs : List (Str × V)) (v : V), x = .ref a ∧ XfC K C ∧ PySem.W.findIn K (.ref C) f = some Option.none ∧ H1 a = some (ExH a (.ref C) (some dd)) ∧ H1 dd = some (.xd fs) ∧ fs.lookup f = some v ∧ Q v H1
theorem pe_fldX {X : Cx} {e : Expr} {te : TE} {pos : Pos} {n : Str} (he : PE X e te) (hb : attributeBase e n X.env (eval e X.env) = eval e X.env := by rfl) : PE X (.Attribute e n pos) (tFldX X.K n te) := by
  refine ⟨fun pins s σ H Q I h => ?_⟩
  refine attr_of hb (thn (he.run pins s σ H _ I h) fun u s1 hh => ?_)
  obtain ⟨x, H1, I1, rx, a, C, dd, fs, v, ex, T, hno, eh, ea, l, q⟩ := hh
  subst ex
  obtain rfl : u = Value.ref a := rx
  obtain ⟨oe, vs, ha, hz, hd⟩ := exH_at I1.hok eh
  have hx : ObjOk X.prog X.w H1 s1.heap dd (.xd fs) := I1.hok dd _ ea
  obtain ⟨mA, hns, hr⟩ := hx
  obtain ⟨od, ho, hl⟩ := lookIn_ns hns
  obtain ⟨u, hu, ru⟩ := RelO.some_of (v := v) (o := mA n) (by rw [← l]; exact hr n)
  have J : PySem.W.InstAt s1.heap a oe C (some od) := ⟨ha, hz.1, by unfold PySem.W.notCls; rw [hd] <;> rfl, by rw [hz.2]; exact ho⟩
  exact HandSPX.exc_get I1.kIn J T.ga T.gg T.exC (PySem.W.findObj_own T.hdC hno rfl (by rw [hl, hu])) (handed_of ru) ⟨v, H1, I1.tok _, ru, q⟩
end Cm

set_option linter.all false
/-! a tuple times 0, 1, 2, .. -/
namespace L2
open PySem PySem.Spec PyProof.Rows
theorem tuple_mul1 (l : Addr) (items : Array Value) (n : Nat) (dd : Option Addr) (sl : Array (Option Value)) (u : Tok) :
    Meets (Builtin.«tuple.__mul__» ⟨[.ref l, .int 1 u], []⟩) (fun _ R s => s.heap.get? l = some { cls := .type "tuple", dict := dd, data := .seq items n, slots := sl } ∧ R (.ok (.ret (Value.ref l))) s) :=
  .of_wp fun prog w A R s h => by
    obtain ⟨hp, g, d, tk, os⟩ := s
    obtain ⟨hl, h⟩ := h
    have f1 := AutoSeq1.idx_int
    wp_walk using wpAny_loadPart' hl
    exact ⟨_, rfl, h⟩
theorem tuple_mul0 (l : Addr) (items : Array Value) (n : Nat) (dd : Option Addr) (sl : Array (Option Value)) (u : Tok) (hne : items.isEmpty = false) :
    Meets (Builtin.«tuple.__mul__» ⟨[.ref l, .int 0 u], []⟩) (fun _ R s => s.heap.get? l = some { cls := .type "tuple", dict := dd, data := .seq items n, slots := sl } ∧
      R (.ok (.ret (Value.ref s.heap.objs.size))) { s with heap := s.heap.push { cls := Value.type "tuple", data := Data.seq #[] }, toks := s.toks }) :=
  .of_wp fun prog w A R s h => by
    obtain ⟨hp, g, d, tk, os⟩ := s
    obtain ⟨hl, h⟩ := h
    have f1 := AutoSeq1.idx_int
    have c1 : (items.isEmpty || (0 : Int) == 1) = false := by rw [hne]; rfl
    wp_walk using wpAny_loadPart' hl
    repeat (first
      | (refine wpAny_ite_false (decide_eq_false (by rw [c1]; exact Bool.false_ne_true)) ?_; wp_walk using wpAny_loadPart' hl)
      | (refine wpAny_ite_true (decide_eq_true (by simp)) ?_; wp_walk using wpAny_loadPart' hl))
    exact ⟨_, rfl, h⟩
def rRepA (K : PySem.W.Frag) : R2 := fun x y H Q => ∃ (l : Addr) (k : Nat) (xs : List V), x = .ref l ∧ y = .int (k : Nat) ∧ SqT K H l xs ∧ xs ≠ [] ∧ k ≤ 1000 ∧ xs.length ≤ 1000 ∧
  ∀ t H', Same H H' → SqT K H' t (List.replicate k xs).flatten → Q (.ref t) H'
theorem op_repA {X : Cx} : OpR X (binaryOp .Mult) (rRepA X.K) := by
  intro pins s σ H x y v u Q I rx ry h
  obtain ⟨l, k, xs, rfl, rfl, hT, hne, h2, hz, q⟩ := h
  by_cases hk : 2 ≤ k
  · refine op_repT pins s σ H _ _ v u Q I rx ry ⟨l, (k : Int), xs, rfl, rfl, hT, hne, by omega, by omega, hz, fun p hp => ?_⟩
    rw [Int.toNat_natCast]
    exact q p _ (Cm.same_new hp) (.inl (.inl upd_same))
  cases rx
  obtain ⟨t, rfl⟩ := ry
  obtain ⟨its, r, ⟨⟨cls, dd, data, sl⟩, ho, hc, n, hd⟩, hs⟩ := I.tuple hT
  simp only at hc hd
  subst hc hd
  have hi : its.toArray.isEmpty = false := by
    cases its with
    | nil =>
      have := r.length
      exact absurd (List.eq_nil_of_length_eq_zero this) hne
    | cons a b => rfl
  by_cases h1 : k = 1
  · subst h1
    refine wpAny_binaryOp_repeat_ref (T := "tuple") (U := "int") (by decide) ⟨_, ho, rfl⟩ (fun s' => typeIs_int s' 1 t) noFill_tuple_mul F.fills_int_mul F.slot_int_rmul repeat_tuple F.slot_int_index.lookup
      (call_meets F.slot_int_rmul (typeIs_int s 1 t) F.entry_int_rmul (F.args_int_rmul_2 _ _) (int_rmul_tuple 1 t l its.toArray n dd sl)
        ⟨ho, rfl, ⟨_, ho, rfl⟩, call_meets F.slot_tuple_mul ⟨_, ho, rfl⟩ F.entry_tuple_mul (F.args_tuple_mul_2 _ _) (tuple_mul1 l its.toArray n dd sl t) ⟨ho, ?_⟩⟩)
    refine ⟨.ref l, H, I, rfl, q l H (Same.refl H) ?_⟩
    have e : (List.replicate 1 xs).flatten = xs := by simp
    rw [e]
    exact hT
  · have h0 : k = 0 := by omega
    subst h0
    refine wpAny_binaryOp_repeat_ref (T := "tuple") (U := "int") (by decide) ⟨_, ho, rfl⟩ (fun s' => typeIs_int s' 0 t) noFill_tuple_mul F.fills_int_mul F.slot_int_rmul repeat_tuple F.slot_int_index.lookup
      (call_meets F.slot_int_rmul (typeIs_int s 0 t) F.entry_int_rmul (F.args_int_rmul_2 _ _) (int_rmul_tuple 0 t l its.toArray n dd sl)
        ⟨ho, rfl, ⟨_, ho, rfl⟩, call_meets F.slot_tuple_mul ⟨_, ho, rfl⟩ F.entry_tuple_mul (F.args_tuple_mul_2 _ _) (tuple_mul0 l its.toArray n dd sl t hi) ⟨ho, ?_⟩⟩)
    have hn := I.hok.fresh (Nat.le_refl s.heap.objs.size)
    refine ⟨.ref s.heap.objs.size, _, I.laid (t' := s.toks) (o := .tup []) (fun b ob q => Heap.get?_push_of_some _ q) (Nat.le_refl _) ?_, rfl, q _ _ (Cm.same_new hn) (.inl (.inl upd_same))⟩
    exact ⟨by show 0 ≤ sizeLine; rw [sizeLine_eq]; omega, [], .nil, IsTup.new _ _⟩
end L2

set_option linter.all false
/-! sorted of texts and of a dict with text keys, of any length; rows of texts in order -/
namespace Cm
open PySem L2 PySem.Spec PyProof.Rows
section
variable {X : Cx}
def rSortedSA (K : PySem.W.Frag) : List V → Hp → VK → Prop := fun vs H Q => ∃ (a : Addr) (xs : List Str), vs = [V.ref a] ∧ SqL K H a (xs.map V.str) ∧
  ∀ (ys : List Str) (p : Addr), ys.Perm xs → sortedS ys = true → H p = Option.none → Q (.ref p) (upd H p (.lst (ys.map V.str)))
theorem cr_sortedSA : CallR X (.builtin "sorted") (rSortedSA X.K) := by
  intro pins s σ H vs us Q I r h
  obtain ⟨a, xs, rfl, hs, q⟩ := h
  obtain ⟨its, rv, hl, hz⟩ := I.list hs
  rw [Vals.ref1 r]
  have hlen0 := rv.length
  rw [List.length_map] at hlen0 hz
  refine PyProof.Rows.sorted_strsAny hl.isList rv.strs (by rw [← hlen0]; exact hz) fun out ys h1 h2 h3 => ?_
  obtain ⟨ep, he'⟩ := PyProof.Rows.sortedAll_at s.heap its out
  have hlen : (ys.map V.str).length ≤ sizeLine := by rw [List.length_map, h2.length_eq]; exact hz
  exact ⟨.ref _, upd H (s.heap.objs.size + 1) (.lst (ys.map V.str)), I.laid (t' := s.toks) (fun _ _ => PyProof.Rows.sortedAll_old) (Nat.le_succ _) ⟨hlen, out.toList, ep, vals_of_strs h1, he'⟩, rfl, q ys _ h2 h3 (I.hok.fresh (Nat.le_succ _))⟩
def rSortedDA : List V → Hp → VK → Prop := fun xs H Q => ∃ (a : Addr) (kvs : List (Key × V)) (ks : List Str), xs = [.ref a] ∧ Rd H a (.dK kvs) ∧ kvs.map (·.1) = ks.map Sum.inr ∧ ks.length ≤ 16000000 ∧
    ∀ ys p, ys.Perm ks → sortedS ys = true → H p = Option.none → Q (.ref p) (upd H p (.lst (ys.map V.str)))
theorem call_sortedDA (hcalm : X.calm = true) : CallR X (.builtin "sorted") rSortedDA := by
  intro pins s σ H xs us Q I r q
  obtain ⟨a, kvs, ks, ex, hd, hks, h64, q⟩ := q
  subst ex
  obtain ⟨u, eu, rx⟩ := vals1 r
  subst eu
  cases rx
  obtain ⟨z, lo, vs, rel, dd⟩ := dk_rd I.hok hd
  obtain ⟨ep, hat⟩ := dd.dictAt
  have hkeys : vs.map (·.1) = ks.map Sum.inr := rel.keys.symm.trans hks
  have hl : vs.length = ks.length := by
    have e := congrArg List.length hkeys
    rw [List.length_map, List.length_map] at e
    exact e
  have h16 : vs.length ≤ sizeLine := by rw [hl, sizeLine_eq]; omega
  refine Calls.call_function_entry PyProof.Rows.kind_sorted PyProof.Rows.plain_sorted PyProof.Rows.entry_sorted (PyProof.Rows.args_sorted1 _) ?_
  unfold Builtin.«sorted»
  refine wpAny_bind (m := checkCount "sorted" 1 1 _) (wpAny_pure ?_)
  refine wpAny_bind (PySem.W.kdu_collect (A := X.A.in1) (PySem.W.kdl_dict (knd := mixKind X.prog X.w) (kvs := vs) (ep := ep) lo) (I.ok.hd hcalm) hat h16 fun h' tk acc hk hacc => ?_)
  have hal : acc.toList.length = ks.length := by rw [Array.length_toList, hacc.1, hl]
  have hS : StrsAre acc.toList ks := strs_at hal fun j v e => by
    obtain ⟨k, x, e1, e2⟩ := hacc.2 j v (by rw [← Array.getElem?_toList]; exact e)
    have e3 : (vs.map (·.1))[j]? = some k := by rw [List.getElem?_map, e1]; all_goals rfl
    rw [hkeys, List.getElem?_map] at e3
    cases e4 : ks[j]? with
    | none => rw [e4] at e3; cases e3
    | some y =>
      rw [e4] at e3
      have e5 : Sum.inr y = k := Option.some.inj e3
      subst e5
      obtain ⟨t, ev⟩ := Value.isStrOf_shape (x := y) (v := v) e2
      exact ⟨y, t, rfl, ev⟩
  have I1 : Inv X pins σ H { s with heap := h', toks := tk } := I.kept hk
  refine wpAny_bind (wpAny_newList ?_ (by rw [hal, sizeLine_eq]; omega))
  have hoL : (h'.push (seqObj "list" acc.toList.toArray 0)).get? h'.objs.size = some (seqObj "list" acc.toList.toArray 0) := Heap.get?_push_size _ rfl
  show wpAny _ _ _ _ _ { s with heap := h'.push (seqObj "list" acc.toList.toArray 0), toks := tk }
  refine wpAny_bind (wpAny_holding (wpAny_call_entry PyProof.Rows.slot_list_sort ⟨_, hoL, rfl⟩ PyProof.Rows.entry_list_sort
    (list_sort_treeKAny strKind_oneLt (s := { s with heap := h'.push (seqObj "list" acc.toList.toArray 0), toks := tk }) hoL hS.keysOf (fun v₁ v₂ rest e => keyKind_strs (by rw [← e]; exact hS)) (by rw [hal, sizeLine_eq]; omega) fun st' hp hs => ⟨_, rfl, ?_⟩)
    (PyProof.Rows.args_list_sort _)))
  obtain ⟨ys, g1, g2, g3⟩ := sorted_out_str hS hp hs
  obtain ⟨e', he'⟩ := PyProof.Rows.sortedHeap_at (vs := acc.toList) (out := (arrOf st').map (·.2)) hoL
  have hlen : (ys.map V.str).length ≤ sizeLine := by
    rw [List.length_map, g2.length_eq, sizeLine_eq]
    omega
  refine wpAny_pure ⟨_, rfl, .ref h'.objs.size, upd H h'.objs.size (.lst (ys.map V.str)), I1.laid (t' := tk) (fun b u e => ?_) (Nat.le_refl _)
    (show ObjOk X.prog X.w _ _ _ (.lst (ys.map V.str)) from ⟨hlen, ((arrOf st').map (·.2)).toList, e', vals_of_strs g1, by rw [Array.toArray_toList]; exact he'⟩), rfl, q ys _ g2 g3 (I1.hok.fresh (Nat.le_refl _))⟩
  have hb : b < h'.objs.size := Heap.lt_size e
  rw [PyProof.Rows.sortedHeap_old (Nat.ne_of_lt hb) (by rw [size_push']; exact Nat.lt_succ_of_lt hb)]
  exact Heap.get?_push_of_some _ e
end
/-! ### rows of texts in order -/
def leS (a b : Str) : Prop := ¬ b.cps.toList < a.cps.toList
theorem leS.tr {a b c : Str} (h : leS a b) (k : leS b c) : leS a c := fun z =>
  absurd z (List.not_lt.mpr (List.le_trans (show a.cps.toList ≤ b.cps.toList from h) (show b.cps.toList ≤ c.cps.toList from k)))
theorem leS.eq {a b : Str} (h : leS a b) (k : leS b a) : a = b := by
  have e : a.cps.toList = b.cps.toList := List.le_antisymm (show a.cps.toList ≤ b.cps.toList from h) (show b.cps.toList ≤ a.cps.toList from k)
  cases a with
  | mk x => cases b with
    | mk y =>
      have e' : x = y := Array.toList_inj.mp e
      rw [e']
theorem leS.refl (a : Str) : leS a a := List.lt_irrefl _
theorem rising_le : ∀ (l : List Str) (p : Str), risingS p l = true → (p :: l).Pairwise leS
  | [], p, _ => List.pairwise_singleton _ _
  | x :: r, p, h => by
    have h' : (!ltCps x.cps.toList p.cps.toList && risingS x r) = true := h
    rw [Bool.and_eq_true] at h'
    have ih := rising_le r x h'.2
    have le : leS p x := fun z => by
      have := h'.1
      rw [ltCps_eq, decide_eq_true z] at this
      cases this
    refine List.pairwise_cons.mpr ⟨fun y hy => ?_, ih⟩
    rcases List.mem_cons.mp hy with rfl | hy
    · exact le
    · exact le.tr ((List.pairwise_cons.mp ih).1 y hy)
theorem sorted_le : ∀ {l : List Str}, sortedS l = true → l.Pairwise leS
  | [], _ => .nil
  | x :: r, h => rising_le r x h
/-- ascending, without doubles -/
structure Asc (l : List Str) : Prop where
  le : l.Pairwise leS
  nd : l.Nodup
theorem Asc.uniq : ∀ {l m : List Str}, Asc l → Asc m → (∀ x, x ∈ l ↔ x ∈ m) → l = m := fun {l m} hl hm h => by
  have p : l.Perm m := (List.perm_ext_iff_of_nodup hl.nd hm.nd).mpr h
  exact List.Perm.eq_of_pairwise (fun a b _ _ h k => leS.eq h k) hl.le hm.le p
theorem asc_of {l ys : List Str} (h : ys.Perm l) (s : sortedS ys = true) (n : l.Nodup) : Asc ys ∧ ∀ x, x ∈ ys ↔ x ∈ l :=
  ⟨⟨sorted_le s, h.nodup_iff.mpr n⟩, fun x => h.mem_iff⟩
/-- one more text, not less than those that stand -/
theorem Asc.snoc {l : List Str} {x : Str} (h : Asc l) (k : ∀ y ∈ l, leS y x) (n : l.getLast? ≠ some x) : Asc (l ++ [x]) := by
  have no : x ∉ l := fun m => by
    cases e : l.getLast? with
    | none => rw [List.getLast?_eq_none_iff] at e; rw [e] at m; cases m
    | some z =>
      obtain ⟨r, rfl⟩ := List.getLast?_eq_some_iff.mp e
      have hz : leS z x := k z (List.mem_append_right _ List.mem_cons_self)
      rcases List.mem_append.mp m with m | m
      · have hx : leS x z := (List.pairwise_append.mp h.le).2.2 x m z List.mem_cons_self
        exact n (by rw [e, hz.eq hx])
      · exact n (by rw [e, List.mem_singleton.mp m])
  refine ⟨List.pairwise_append.mpr ⟨h.le, List.pairwise_singleton _ _, fun a ha b hb => ?_⟩, List.nodup_append.mpr ⟨h.nd, List.nodup_cons.mpr ⟨List.not_mem_nil, List.nodup_nil⟩, fun a ha b hb e => ?_⟩⟩
  · rw [List.mem_singleton.mp hb]
    exact k a ha
  · rw [List.mem_singleton.mp hb] at e
    exact no (e ▸ ha)
/-! ### keys of a dict that are texts -/
theorem putK_keys {kvs : List (Key × V)} {ns : List Str} (h : kvs.map (·.1) = ns.map Sum.inr) (x : Str) (v : V) : (putK kvs (Sum.inr x) v).map (·.1) = (if x ∈ ns then ns else ns ++ [x]).map Sum.inr := by
  have a : (kvs.any fun kv => decide (kv.1 = Sum.inr x)) = decide (x ∈ ns) := by
    have e : (kvs.any fun kv => decide (kv.1 = Sum.inr x)) = (kvs.map (·.1)).any fun k => decide (k = Sum.inr x) := by rw [List.any_map]; rfl
    rw [e, h, List.any_map]
    clear h e
    induction ns with
    | nil => rfl
    | cons n ns ih =>
      rw [List.any_cons, ih]
      by_cases q : n = x
      · subst q
        simp
      · have : ¬ x = n := fun z => q z.symm
        simp [q, this]
  unfold putK
  rw [a]
  by_cases q : x ∈ ns
  · rw [if_pos (decide_eq_true q), if_pos q, List.map_map, ← h]
    refine List.map_congr_left fun kv _ => ?_
    show (if kv.1 = Sum.inr x then (kv.1, v) else kv).1 = kv.1
    split <;> rfl
  · rw [if_neg (by rw [decide_eq_false q]; exact Bool.false_ne_true), if_neg q, List.map_append, List.map_append, h]
    rfl
/-- what is kept but the dict d -/
structure Kd (d : Addr) (H H' : Hp) : Prop where
  st : ∀ a o, a ≠ d → H a = some o → H' a = some o
  d1 : ∃ kvs, H d = some (.dK kvs)
  d2 : ∃ kvs, H' d = some (.dK kvs)
theorem Kd.trans {d : Addr} {H H1 H2 : Hp} (a : Kd d H H1) (b : Kd d H1 H2) : Kd d H H2 := ⟨fun x o n e => b.st x o n (a.st x o n e), a.d1, b.d2⟩
theorem Kd.of_same {d : Addr} {H H' : Hp} {kvs : List (Key × V)} (h : H d = some (.dK kvs)) (s : Same H H') : Kd d H H' := ⟨fun x o _ e => s x o e, ⟨_, h⟩, ⟨_, s _ _ h⟩⟩
theorem Kd.put {d : Addr} {H : Hp} {kvs kvs' : List (Key × V)} (h : H d = some (.dK kvs)) : Kd d H (upd H d (.dK kvs')) := ⟨fun x o n e => by rw [upd_ne n]; exact e, ⟨_, h⟩, ⟨_, upd_same⟩⟩
theorem Kd.tup {d : Addr} {K : PySem.W.Frag} {H H' : Hp} {a : Addr} {xs : List V} (k : Kd d H H') (h : SqT K H a xs) : SqT K H' a xs := by
  have no : ∀ o, H a = some o → (∀ ys, o ≠ .dK ys) → a ≠ d := fun o e n m => by
    obtain ⟨ys, e2⟩ := k.d1
    rw [m, e2] at e
    exact n ys (Option.some.inj e).symm
  rcases h with (h | ⟨o, h⟩) | h
  · exact .inl (.inl (k.st _ _ (no _ h fun _ z => nomatch z) h))
  · exact .inl (.inr ⟨o, k.st _ _ (no _ h fun _ z => nomatch z) h⟩)
  · exact .inr h
theorem Kd.dp {d : Addr} {K : PySem.W.Frag} {H H' : Hp} (k : Kd d H H') {v : V} {x : PyData} (f : flatD x = true) (h : Dp K H v x) : Dp K H' v x := dp_keep (fun _ _ q => k.tup q) _ _ f h
theorem Kd.dps {d : Addr} {K : PySem.W.Frag} {H H' : Hp} (k : Kd d H H') {vs : List V} {ds : List PyData} (f : flatDs ds = true) (h : DpAll K H vs ds) : DpAll K H' vs ds := dps_keep (fun _ _ q => k.tup q) _ _ f h
/-- a comprehension over data, of any size -/
theorem lc_dataW {K : PySem.W.Frag} {J : It} {n : Nat} {G : Hp → Prop} {Y : Nat → Hp → V → Hp → Prop} (wk : Walk J n G Y) {g : TG} {tt : TT} {te : TE} {vs : List Nat} {σ : L2.St} {H1 : Hp} {D : Addr} {Qd : Hp → Prop} (R : Nat → Option PyData)
    (hD : H1 D = Option.none) (hn : n ≤ 16000000) (hG : ∀ H, Same H1 H → G H) (hfl : ∀ i < n, ∀ d, R i = some d → flatD d = true)
    (hs : ∀ i x H H', i < n → Same H1 H → Y i H x H' → ∀ (Q1 : VK) (Q0 : Hp → Prop), (∀ v H4 d, R i = some d → Same H H4 → Dp K H4 v d → Q1 v H4) → (∀ H3, R i = none → Same H H3 → Q0 H3) →
      g x (wipe σ vs) H' fun σ2 H2 => wipe σ2 vs = wipe σ vs ∧ tt σ2 H2 fun b H3 => if b = true then te σ2 H3 Q1 else Q0 H3)
    (hd : ∀ H acc, Same H1 H → H D = some (.lst acc) → DpAll K H acc ((List.range n).filterMap R) → Qd H) :
    ∃ W : Nat → Nat → Hp → Prop, (∃ m, W 0 m (upd H1 D (.lst []))) ∧ ∀ i m H, W i m H →
      (J.stop i H ∧ Qd H) ∨ (J.go i H ∧ ∃ Nx : Hp → Prop, (∀ H', Nx H' → ∃ m', m' < m ∧ W (i + 1) m' H') ∧ ∀ x H', J.yld i H x H' → g x (wipe σ vs) H' fun σ2 H2 => wipe σ2 vs = wipe σ vs ∧ tt σ2 H2 fun b H3 =>
        if b = true then te σ2 H3 fun y H4 => ∃ acc, H4 D = some (.lst acc) ∧ acc.length < sizeLine ∧ Nx (upd H4 D (.lst (acc ++ [y]))) else Nx H3) := by
  have fl : ∀ i ≤ n, flatDs ((List.range i).filterMap R) = true := fun i hi => flatDs_of _ fun d hd => by
    obtain ⟨j, hj, e⟩ := List.mem_filterMap.mp hd
    exact hfl j (by have := List.mem_range.mp hj; omega) d e
  refine lc_it wk (fun i H => ∃ acc, Same H1 H ∧ H D = some (.lst acc) ∧ DpAll K H acc ((List.range i).filterMap R) ∧ acc.length ≤ i) ⟨[], same_new hD, upd_same, .nil, Nat.le_refl _⟩ (fun i H _ z => ?_) ?_ ?_
  · obtain ⟨acc, s, _⟩ := z
    exact hG H s
  · rintro i x H H' hi ⟨acc, s, hacc, ha, hl⟩ y
    refine hs i x H H' hi s y _ _ (fun v H4 d e s4 hv => ?_) (fun H3 e s3 => ?_)
    · have hD4 := s4 _ _ hacc
      refine ⟨acc, hD4, (by rw [sizeLine_eq]; omega), acc ++ [v], same_put (s.trans s4) hD, upd_same, ?_, by rw [List.length_append]; exact Nat.succ_le_succ hl⟩
      rw [List.range_succ, List.filterMap_append]
      have e1 : ([i].filterMap R) = [d] := by simp [e]
      rw [e1]
      exact DpAll.snoc (dp_keep (fun _ _ q => sqt_put hD4 q) _ _ (hfl i hi d e) hv) (dps_keep (fun _ _ q => sqt_put hD4 q) _ _ (fl i (by omega)) (dps_same s4 _ _ ha))
    · refine ⟨acc, s.trans s3, s3 _ _ hacc, ?_, by omega⟩
      rw [List.range_succ, List.filterMap_append]
      have e1 : ([i].filterMap R) = [] := by simp [e]
      rw [e1, List.append_nil]
      exact dps_same s3 _ _ ha
  · rintro H ⟨acc, s, hacc, ha, _⟩
    exact hd H acc s hacc ha
end Cm

set_option linter.all false
/-! the names that forms bind -/
namespace Cm
open PySem L2 PySem.Spec PyProof.Rows
/-- the names that a form binds -/
def held : Hd → List Str
  | .fn xs => xs
  | .one w x => if w = "set" then [] else [x]
  | .bind _ xs => xs
  | _ => []
def isLet : Hd → Bool
  | .bind w _ => decide (w = "let")
  | _ => false
def isTak : Hd → Bool
  | .one w _ => !decide (w = "set")
  | _ => false
def isFn (h : Hd) : Bool := kd h == 4
def isName (h : Hd) : Bool := kd h == 1
/-- .. over the i-th of n parts -/
def under (h : Hd) (n i : Nat) : List Str := if isLet h = true ∧ i + 1 < n then [] else held h
def bnds (h : Hd) (n : Nat) : List PyData := (List.range n).map fun i => encs (under h n i)
theorem under_no {h : Hd} (e : isLet h = false) (n i : Nat) : under h n i = held h := by
  unfold under
  rw [e, if_neg (fun z => Bool.false_ne_true z.1)]
theorem bnds_no {h : Hd} (e : isLet h = false) (n : Nat) : bnds h n = List.replicate n (encs (held h)) := by
  unfold bnds
  have : (fun i => encs (under h n i)) = fun _ => encs (held h) := by
    funext i
    rw [under_no e]
  rw [this, List.map_const', List.length_range]
theorem bnds_let {h : Hd} (e : isLet h = true) (n : Nat) : bnds h (n + 1) = List.replicate n (encs []) ++ [encs (held h)] := by
  unfold bnds
  rw [List.range_succ, List.map_append]
  have h1 : (List.range n).map (fun i => encs (under h (n + 1) i)) = List.replicate n (encs []) := by
    have : (List.range n).map (fun i => encs (under h (n + 1) i)) = (List.range n).map (fun _ => encs []) := List.map_congr_left fun i hi => by
      have := List.mem_range.mp hi
      unfold under
      rw [if_pos ⟨e, by omega⟩]
    rw [this, List.map_const', List.length_range]
  rw [h1]
  congr 1
  show [encs (under h (n + 1) n)] = _
  unfold under
  rw [if_neg (fun z => by omega)]
theorem flat_bnds (h : Hd) (n : Nat) : flatDs (bnds h n) = true := flatDs_of _ fun d hd => by
  obtain ⟨i, _, rfl⟩ := List.mem_map.mp hd
  exact flat_strs _
theorem under_at {h : Hd} {n i : Nat} (hi : i < n) : (bnds h n)[i]? = some (encs (under h n i)) := by
  unfold bnds
  rw [List.getElem?_map, List.getElem?_range hi]
  rfl
theorem under_len {h : Hd} {m : Nat} (o : hok h m) (l : m ≤ 11) (n i : Nat) : (under h n i).length ≤ 100 := by
  unfold under
  split
  · exact Nat.zero_le _
  · cases h with
    | fn xs => exact o.2.1
    | one w x =>
      show (if w = "set" then [] else [x] : List Str).length ≤ 100
      split
      · exact Nat.zero_le _
      · exact (by decide : 1 ≤ 100)
    | bind w xs =>
      have := o.1
      show xs.length ≤ 100
      omega
    | _ => exact Nat.zero_le _
theorem held_sok {h : Hd} {m : Nat} (o : hok h m) : ∀ x ∈ held h, sok x := by
  cases h with
  | fn xs => exact o.2.2
  | one w x =>
    show ∀ y ∈ (if w = "set" then [] else [x] : List Str), sok y
    split
    · intro y hy; cases hy
    · intro y hy
      rw [List.mem_singleton.mp hy]
      exact o.2.2
  | bind w xs => exact o.2.2
  | _ => intro y hy; cases hy
section
variable {h : Hd} {n : Nat}
theorem eq_fn (o : hok h n) : decide (V.str (wd h) = V.str "fn") = isFn h := by
  rw [decS]
  exact by_kind (fun w => decide (w = "fn")) (fun k => k == 4) (by decide +kernel) o
theorem eq_name (o : hok h n) : decide (V.str (wd h) = V.str "name") = isName h := by
  rw [decS]
  exact by_kind (fun w => decide (w = "name")) (fun k => k == 1) (by decide +kernel) o
theorem in_T (o : hok h n) : inV (.str (wd h)) ((["keep", "once", "take"] : List Str).map V.str) = isTak h := by
  have other : kd h ≠ 3 → inV (.str (wd h)) ((["keep", "once", "take"] : List Str).map V.str) = false := fun q => by
    have key : ∀ c < 10, c ≠ 3 → ∀ w ∈ wordsOf c, inV (.str w) ((["keep", "once", "take"] : List Str).map V.str) = false := by decide +kernel
    exact key _ (wd_mem o).1 q _ (wd_mem o).2
  cases h with
  | one w x =>
    have key : ∀ w ∈ oneW, inV (.str w) ((["keep", "once", "take"] : List Str).map V.str) = !decide (w = "set") := by decide +kernel
    exact key w o.2.1
  | num i => exact other (Nat.ne_of_beq_eq_false rfl)
  | name i => exact other (Nat.ne_of_beq_eq_false rfl)
  | lit i => exact other (Nat.ne_of_beq_eq_false rfl)
  | fn i => exact other (Nat.ne_of_beq_eq_false rfl)
  | bind i _ => exact other (Nat.ne_of_beq_eq_false rfl)
  | doo => exact other (Nat.ne_of_beq_eq_false rfl)
  | call => exact other (Nat.ne_of_beq_eq_false rfl)
  | op i => exact other (Nat.ne_of_beq_eq_false rfl)
  | plain i => exact other (Nat.ne_of_beq_eq_false rfl)
theorem eq_set (o : hok h n) : decide (V.str (wd h) = V.str "set") = (kd h == 3 && !isTak h) := by
  have other : kd h ≠ 3 → decide (wd h = "set") = false := fun q => by
    have key : ∀ c < 10, c ≠ 3 → ∀ w ∈ wordsOf c, decide (w = ("set" : Str)) = false := by decide +kernel
    exact key _ (wd_mem o).1 q _ (wd_mem o).2
  rw [decS]
  cases h with
  | one w x =>
    show decide (w = "set") = (true && !(!decide (w = "set")))
    rw [Bool.not_not, Bool.true_and]
  | num i => exact other (Nat.ne_of_beq_eq_false rfl)
  | name i => exact other (Nat.ne_of_beq_eq_false rfl)
  | lit i => exact other (Nat.ne_of_beq_eq_false rfl)
  | fn i => exact other (Nat.ne_of_beq_eq_false rfl)
  | bind i _ => exact other (Nat.ne_of_beq_eq_false rfl)
  | doo => exact other (Nat.ne_of_beq_eq_false rfl)
  | call => exact other (Nat.ne_of_beq_eq_false rfl)
  | op i => exact other (Nat.ne_of_beq_eq_false rfl)
  | plain i => exact other (Nat.ne_of_beq_eq_false rfl)
theorem eq_let (o : hok h n) : decide (V.str (wd h) = V.str "let") = isLet h := by
  have other : kd h ≠ 5 → decide (wd h = "let") = false := fun q => by
    have key : ∀ c < 10, c ≠ 5 → ∀ w ∈ wordsOf c, decide (w = ("let" : Str)) = false := by decide +kernel
    exact key _ (wd_mem o).1 q _ (wd_mem o).2
  rw [decS]
  cases h with
  | bind w x => rfl
  | num i => exact other (Nat.ne_of_beq_eq_false rfl)
  | name i => exact other (Nat.ne_of_beq_eq_false rfl)
  | lit i => exact other (Nat.ne_of_beq_eq_false rfl)
  | fn i => exact other (Nat.ne_of_beq_eq_false rfl)
  | one i _ => exact other (Nat.ne_of_beq_eq_false rfl)
  | doo => exact other (Nat.ne_of_beq_eq_false rfl)
  | call => exact other (Nat.ne_of_beq_eq_false rfl)
  | op i => exact other (Nat.ne_of_beq_eq_false rfl)
  | plain i => exact other (Nat.ne_of_beq_eq_false rfl)
end
/-- the names that a tree names (or sets alone), as the form of a list -/
def own (sa : Bool) : Hd → List Str
  | .name x => if sa = true then [] else [x]
  | .one w x => if w = "set" then [x] else []
  | _ => []
mutual
def Tr.free (sa : Bool) : Tr → List Str
  | .mk h ps => own sa h ++ Tr.frees sa h ps.length 0 ps
def Tr.frees (sa : Bool) (h : Hd) (n : Nat) : Nat → List Tr → List Str
  | _, [] => []
  | i, t :: ts => (t.free sa).filter (fun x => !decide (x ∈ under h n i)) ++ Tr.frees sa h n (i + 1) ts
end
theorem frees_snoc (sa : Bool) (h : Hd) (n : Nat) (t : Tr) : ∀ (ts : List Tr) (i : Nat), Tr.frees sa h n i (ts ++ [t]) = Tr.frees sa h n i ts ++ (t.free sa).filter (fun x => !decide (x ∈ under h n (i + ts.length)))
  | [], i => by
    show (t.free sa).filter _ ++ [] = [] ++ _
    simp
  | a :: ts, i => by
    show (a.free sa).filter _ ++ Tr.frees sa h n (i + 1) (ts ++ [t]) = ((a.free sa).filter _ ++ Tr.frees sa h n (i + 1) ts) ++ _
    rw [frees_snoc sa h n t ts (i + 1), List.append_assoc, List.length_cons, show i + 1 + ts.length = i + (ts.length + 1) by omega]
theorem own_len (sa : Bool) (h : Hd) : (own sa h).length ≤ 1 := by
  cases h with
  | name x => show (if sa = true then [] else [x] : List Str).length ≤ 1; split <;> simp
  | one w x => show (if w = "set" then [x] else [] : List Str).length ≤ 1; split <;> simp
  | _ => exact Nat.zero_le _
mutual
theorem free_len (sa : Bool) : ∀ t : Tr, (t.free sa).length ≤ t.size
  | .mk h ps => by
    have h1 := own_len sa h
    have h2 := frees_len sa h ps.length 0 ps
    show (own sa h ++ Tr.frees sa h ps.length 0 ps).length ≤ Tr.sizes ps + 1
    rw [List.length_append]
    omega
theorem frees_len (sa : Bool) (h : Hd) (n : Nat) : ∀ (i : Nat) (ts : List Tr), (Tr.frees sa h n i ts).length ≤ Tr.sizes ts
  | _, [] => Nat.le_refl _
  | i, t :: ts => by
    have h1 := free_len sa t
    have h2 := frees_len sa h n (i + 1) ts
    have h3 := List.length_filter_le (fun x => !decide (x ∈ under h n i)) (t.free sa)
    show ((t.free sa).filter _ ++ Tr.frees sa h n (i + 1) ts).length ≤ t.size + Tr.sizes ts
    rw [List.length_append]
    omega
end
mutual
theorem free_sok (sa : Bool) : ∀ t : Tr, t.ok → ∀ x ∈ t.free sa, sok x
  | .mk h ps, o, x, m => by
    have o' : hok h ps.length ∧ ps.length ≤ 11 ∧ Tr.oks ps := o
    have m' : x ∈ own sa h ++ Tr.frees sa h ps.length 0 ps := m
    rcases List.mem_append.mp m' with m' | m'
    · cases h with
      | name y =>
        have m2 : x ∈ (if sa = true then [] else [y] : List Str) := m'
        split at m2
        · cases m2
        · rw [List.mem_singleton.mp m2]
          exact o'.1.2
      | one w y =>
        have m2 : x ∈ (if w = "set" then [y] else [] : List Str) := m'
        split at m2
        · rw [List.mem_singleton.mp m2]
          exact o'.1.2.2
        · cases m2
      | _ => cases m'
    · exact frees_sok sa h ps.length 0 ps o'.2.2 x m'
theorem frees_sok (sa : Bool) (h : Hd) (n : Nat) : ∀ (i : Nat) (ts : List Tr), Tr.oks ts → ∀ x ∈ Tr.frees sa h n i ts, sok x
  | _, [], _, _, m => by cases m
  | i, t :: ts, o, x, m => by
    have m' : x ∈ (t.free sa).filter (fun x => !decide (x ∈ under h n i)) ++ Tr.frees sa h n (i + 1) ts := m
    rcases List.mem_append.mp m' with m' | m'
    · exact free_sok sa t o.1 x (List.mem_filter.mp m').1
    · exact frees_sok sa h n (i + 1) ts o.2 x m'
end
end Cm

namespace K02
open PySem L2 Cm
/-- the names that a form binds over each of its parts -/
def spBound (K : PySem.W.Frag) : Sp := fun vs H Q _ => ∃ (v : V) (h : Hd) (ds : List PyData), vs = [v] ∧ Dp K H v (encH h ds) ∧ hok h ds.length ∧ flatDs ds = true ∧ ds.length ≤ 100 ∧
  ∀ (t : Addr) (us : List V) (H' : Hp), Same H H' → SqT K H' t us → DpAll K H' us (bnds h ds.length) → Q (.ref t) H'
section
variable {P : Program} {w : World} {K : PySem.W.Frag} {mg : Str → Option Value} {base : Heap}
theorem dps_rep {H : Hp} {v : V} {d : PyData} (h : Dp K H v d) : ∀ n : Nat, DpAll K H (List.replicate n [v]).flatten (List.replicate n d)
  | 0 => .nil
  | n + 1 => by
    have := dps_rep h n
    show DpAll K H ([v] ++ (List.replicate n [v]).flatten) (d :: List.replicate n d)
    exact .cons h this
abbrev s_p_names_bound : Stmt := top 6
abbrev N_p_names_bound : List Str := ["tree", "word", "names", "name", "_", "sides"]
theorem sc_p_names_bound : FnScope N_p_names_bound ["tree"] (defScope s_p_names_bound) := ⟨rfl, rfl, rfl, by decide +kernel, rfl, by decide +kernel, by decide +kernel⟩
theorem ok_names_bound (T : Txt mg) (c_p_parts_of : Cl P w K mg base 1 "parts_of" (spParts K)) (D : At K mg "names_bound" s_p_names_bound ["tree"]) : Cl P w K mg base 2 "names_bound" (spBound K) := by
  refine cl_of D sc_p_names_bound (fun vs H Q E h => ?_) fun f cdv A outer s H vs Q E hr h => ?_
  · obtain ⟨v, h, ds, rfl, _⟩ := h
    rfl
  · obtain ⟨v, h, ds, rfl, hd, o, fl, hlen, k⟩ := h
    obtain ⟨a, its, rfl, hs, hx⟩ := view hd
    refine ⟨_, (pss_cons (ps_set (i := 1) sc_p_names_bound.nd rfl (Or.inl rfl) (pe_ix ix_tup (pv 0) pe_int (fun _ _ => rfl)))
      (pss_cons (ps_if (pt_cmpR op_eq (pv 1) pe_str (nomark _))
        (pss_one (ps_ret (pe_tup (pa_cons (pe_tupleOf (by rfl) T.tuple (pe_ix ix_tup (pv 0) pe_int (fun _ _ => rfl))) pa_nil))))
        pss_nil)
      (pss_cons (ps_if (pt_inW (pv 1) (.cons (.cons (.cons .nil))) (show 3 ≤ sizeLine by decide) (by rfl))
        (pss_one (ps_ret (pe_tup (pa_cons (pe_tup (pa_cons (pe_ix ix_tup (pv 0) pe_int (fun _ _ => rfl)) pa_nil)) pa_nil))))
        pss_nil)
      (pss_cons (ps_if (pt_inW (pv 1) (.cons (.cons .nil)) (show 2 ≤ sizeLine by decide) (by rfl))
        (pss_cons (ps_set (i := 2) sc_p_names_bound.nd rfl (Or.inl rfl) (pe_tupleOf (by rfl) T.tuple (pe_lc (own := [("name", 3), ("_", 4)]) (g := gTup K 2 (gCons (gName 3) (gCons (gName 4) gNil))) rfl sc_p_names_bound.nd (pi_tup (pe_ix ix_tup (pv 0) pe_int (fun _ _ => rfl))) (blkOk_by (N := N_p_names_bound) (sc := defScope s_p_names_bound) (by decide +kernel))
      (fun _ _ _ _ _ => (pg_tup rfl (pgs_cons (pg_name (i := 3) sc_p_names_bound.nd rfl (Or.inl rfl)) (pgs_cons (pg_name (i := 4) sc_p_names_bound.nd rfl (Or.inl rfl)) pgs_nil))))
      (fun _ _ _ _ _ => pts_nil)
      (fun _ _ _ _ _ => (pv 3)))))
        (pss_mid (ps_set (i := 5) sc_p_names_bound.nd rfl (Or.inl rfl) (pe_ifExp (pt_cmpR op_eq (pv 1) pe_str (nomark _)) (pv 2) (pe_tup pa_nil)))
        (pss_one (ps_ret (pe_op op_catA (pe_op op_repA (pe_tup (pa_cons (pv 5) pa_nil)) (pe_callB call_len_seq (by rfl) T.len (by decide +kernel) (pa_cons (pv 2) pa_nil))) (pe_tup (pa_cons (pv 2) pa_nil)))))))
        pss_nil)
      (pss_one (ps_ret (pe_op op_repA (pe_tup (pa_cons (pe_tup pa_nil) pa_nil)) (pe_callB call_len_seq (by rfl) T.len (by decide +kernel) (pa_cons (pe_c c_p_parts_of hr (by decide) (by rfl) (pa_cons (pv 0) pa_nil)) pa_nil))))))))), ?_⟩
    have hhd := hx.head
    refine ⟨_, rfl, a, its, _, _, rfl, rfl, hs, hhd, ?_⟩
    refine ⟨_, rfl, rfl, _, rfl, ?_⟩
    rw [eq_fn o]
    cases eF : isFn h with
    | true =>
      refine iteT ?_
      cases h with
      | fn xs =>
        obtain ⟨q, vs, rfl, hq, hv⟩ := hx
        refine ⟨_, rfl, a, _, _, _, rfl, rfl, hs, atI_nat (j := 1) rfl, .inr ⟨q, _, rfl, hq, by show 1 ≤ sizeLine; decide, fun t ht => ?_⟩⟩
        have s1 := same_new (o := .tup [V.ref q]) ht
        refine k t _ _ s1 (.inl (.inl upd_same)) ?_
        have e1 : ds.length = 1 := o.1
        rw [bnds_no rfl, e1]
        exact .cons (.tup (sqt_same s1 hq) (dpAll_strs xs)) .nil
      | _ => cases eF
    | false =>
      refine iteF ?_
      refine ⟨_, rfl, rfl, fun H1 s1 => ?_⟩
      have hs1 := sqt_same s1 hs
      have hx1 := hx.same s1
      rw [in_T o]
      cases eT : isTak h with
      | true =>
        refine iteT ?_
        cases h with
        | one w x =>
          obtain ⟨vs, rfl, hv⟩ := hx1
          refine ⟨_, rfl, a, _, _, _, rfl, rfl, hs1, atI_nat (j := 1) rfl, by show 1 ≤ sizeLine; decide, fun q hq => ⟨by show 1 ≤ sizeLine; decide, fun t ht => ?_⟩⟩
          have s2 := same_new (o := .tup [V.str x]) hq
          have s3 := same_new (o := .tup [V.ref q]) ht
          refine k t _ _ (s1.trans (s2.trans s3)) (.inl (.inl upd_same)) ?_
          have e1 : ds.length = 1 := o.1
          have e2 : held (.one w x) = [x] := by
            have : (!decide (w = "set")) = true := eT
            show (if w = "set" then [] else [x] : List Str) = [x]
            rw [if_neg (fun z => by rw [decide_eq_true z] at this; cases this)]
          rw [bnds_no rfl, e1, e2]
          exact .cons (.tup (sqt_same s3 (.inl (.inl upd_same))) (dpAll_strs [x])) .nil
        | _ => cases eT
      | false =>
        refine iteF ?_
        refine ⟨_, rfl, rfl, fun H2 s2 => ?_⟩
        have S2 := s1.trans s2
        have hs2 := sqt_same s2 hs1
        have hx2 := hx1.same s2
        rw [in_B o]
        cases eB : kB h with
        | true =>
          refine iteT ?_
          cases h with
          | bind w xs =>
            obtain ⟨q, rows, vs, rfl, hq, hrows, hv⟩ := hx2
            have hdl : ds.length = xs.length + 1 := o.1
            have hrl : rows.length = xs.length := by
              have := DpAll.len hrows
              rw [List.length_map, List.length_zip] at this
              omega
            refine ⟨_, rfl, a, _, _, _, rfl, rfl, hs2, atI_nat (j := 1) rfl, q, rfl, ⟨_, hq⟩, fun L hL => ?_⟩
            refine lc_data (K := K) (walk_tup (xs := rows)) (fun i => (xs[i]?).map PyData.str) hL (by omega) (fun H' s => sqt_same s hq) (fun i _ d e => ?_) ?_ ?_
            · obtain ⟨d', e', rfl⟩ := Option.map_eq_some_iff.mp e
              rfl
            · rintro i x H3 H4 hi s3 ⟨rfl, e2⟩ Q1 Q0 q1 q0
              obtain ⟨d, g1, g2⟩ := DpAll.atV hrows e2
              obtain ⟨p, ep, rfl⟩ := map_at g1
              obtain ⟨r, its3, rfl, hr3, hi3⟩ := dp_tup (dp_same s3 _ _ g2)
              cases hi3 with
              | cons h1 h2 =>
                obtain ⟨v, rfl, h3⟩ := dpAll_one h2
                refine ⟨r, _, rfl, hr3, rfl, _, _, rfl, _, _, rfl, rfl, rfl, ?_⟩
                refine ⟨_, rfl, q1 _ _ (.str p.1) ?_ (Same.refl _) h1⟩
                rw [(List.getElem?_zip_eq_some.mp ep).1]
                rfl
            · intro H3 acc s3 hacc ha3
              rw [show rows.length = xs.length by omega, range_map] at ha3
              have ea := dpAll_strs_inv ha3
              subst ea
              refine .inl ⟨L, _, rfl, .inl (.inl hacc), fun nm hnm => ?_⟩
              have s4 := same_new (o := .tup (xs.map V.str)) hnm
              have S4 := S2.trans (s3.trans s4)
              have hn4 : SqT K (upd H3 nm (.tup (xs.map V.str))) nm (xs.map V.str) := .inl (.inl upd_same)
              generalize upd H3 nm (.tup (xs.map V.str)) = H4 at *
              refine ⟨fun σ' H' => ∃ sd : Addr, σ' = [some (.ref a), some (.str (wd (.bind w xs))), some (.ref nm), none, none, some (.ref sd)] ∧ Same H4 H' ∧ (xs = [] ∨ SqT K H' sd ((under (.bind w xs) ds.length 0).map V.str)), ?_, ?_⟩
              · refine ⟨_, rfl, rfl, _, rfl, ?_⟩
                have hw : w ∈ bindW := o.2.1
                have hcw : w = "let" ∨ w = "rec" := by
                  simp only [bindW, List.mem_cons, List.not_mem_nil, or_false] at hw
                  exact hw
                show if decide (V.str w = V.str "rec") = true then _ else _
                rcases hcw with rfl | rfl
                · refine iteNe (by decide +kernel) ⟨by show 0 ≤ sizeLine; decide, fun sd hsd => ⟨sd, rfl, same_new hsd, ?_⟩⟩
                  by_cases z : xs = []
                  · exact .inl z
                  · have hx0 : 0 < xs.length := List.length_pos_iff.mpr z
                    have e0 : under (.bind "let" xs) ds.length 0 = [] := by
                      unfold under
                      rw [if_pos ⟨show decide (("let" : Str) = "let") = true by decide +kernel, by omega⟩]
                    rw [e0]
                    exact .inr (.inl (.inl upd_same))
                · refine iteEq rfl ⟨_, rfl, nm, rfl, Same.refl _, ?_⟩
                  have e0 : under (.bind "rec" xs) ds.length 0 = xs := under_no (h := .bind "rec" xs) (show decide (("rec" : Str) = "let") = false by decide +kernel) _ _
                  rw [e0]
                  exact .inr hn4
              · rintro σ' H5 ⟨sd, rfl, s5, hsd⟩
                refine ⟨_, rfl, by show 1 ≤ sizeLine; decide, fun t1 ht1 => ?_⟩
                have s6 := same_new (o := .tup [V.ref sd]) ht1
                refine ⟨_, rfl, nm, _, rfl, .inr (sqt_same (s5.trans s6) hn4), ?_⟩
                refine ⟨t1, (xs.map V.str).length, _, rfl, rfl, .inl (.inl upd_same), (fun z => by cases z), by rw [List.length_map]; omega, (by show 1 ≤ 1000; decide), fun t2 H7 s7 ht2 => ?_⟩
                refine ⟨_, rfl, by show 1 ≤ sizeLine; decide, fun t3 ht3 => ?_⟩
                have s8 := same_new (o := .tup [V.ref nm]) ht3
                refine cat_any (sqt_same s8 ht2) (.inl (.inl upd_same)) ?_ fun t4 H9 s9 ht4 => ?_
                · have e : (List.replicate (xs.map V.str).length [V.ref sd]).flatten.length ≤ 1000 := by
                    have := DpAll.len (dps_rep (K := K) (H := H5) (v := .non) (d := .none) .non (xs.map V.str).length)
                    rw [List.length_flatten, List.map_replicate, List.sum_replicate_nat, List.length_map]
                    show xs.length * 1 ≤ 1000
                    omega
                  exact Nat.le_trans (Nat.add_le_add_right e _) (by show 1001 ≤ sizeLine; decide)
                · have S9 := (s6.trans s7).trans (s8.trans s9)
                  refine k t4 _ H9 ((S4.trans s5).trans S9) ht4 ?_
                  rw [hdl]
                  have dn : Dp K H9 (.ref nm) (encs xs) := .tup (sqt_same (s5.trans S9) hn4) (dpAll_strs xs)
                  rw [List.length_map]
                  by_cases e : isLet (.bind w xs) = true
                  · rw [bnds_let e]
                    refine DpAll.app ?_ (.cons dn .nil)
                    rcases hsd with z | hsd
                    · subst z
                      exact .nil
                    · by_cases z : xs = []
                      · subst z
                        exact .nil
                      · have hx0 : 0 < xs.length := List.length_pos_iff.mpr z
                        have e0 : under (.bind w xs) ds.length 0 = [] := by
                          unfold under
                          rw [if_pos ⟨e, by omega⟩]
                        rw [e0] at hsd
                        exact dps_rep (.tup (sqt_same S9 hsd) .nil) _
                  · have e' : isLet (.bind w xs) = false := by simpa using e
                    rw [bnds_no e', List.replicate_succ']
                    refine DpAll.app ?_ (.cons dn .nil)
                    rcases hsd with z | hsd
                    · subst z
                      exact .nil
                    · rw [under_no e'] at hsd
                      exact dps_rep (.tup (sqt_same S9 hsd) (dpAll_strs xs)) _
          | _ => cases eB
        | false =>
          refine iteF ?_
          have eh : held h = [] := by
            cases h with
            | fn xs => cases eF
            | bind w xs => cases eB
            | one w x =>
              have : (!decide (w = "set")) = false := eT
              show (if w = "set" then [] else [x] : List Str) = []
              rw [if_pos (by
                by_cases z : w = "set"
                · exact z
                · rw [decide_eq_false z] at this
                  cases this)]
            | _ => rfl
          have el : isLet h = false := by
            cases h with
            | bind w xs => cases eB
            | _ => rfl
          refine ⟨by show 0 ≤ sizeLine; decide, fun t1 ht1 => ⟨by show 1 ≤ sizeLine; decide, fun t2 ht2 => ?_⟩⟩
          have s3 := same_new (o := .tup []) ht1
          have s4 := same_new (o := .tup [V.ref t1]) ht2
          have S4 := S2.trans (s3.trans s4)
          refine ⟨_, rfl, .ref a, h, ds, rfl, dp_same S4 _ _ hd, o, fl, hlen, fun t5 us H5 s5 ht5 hu => ?_⟩
          have hul := DpAll.len hu
          refine ⟨t5, us, rfl, .inr ht5, ?_⟩
          refine ⟨t2, us.length, _, rfl, rfl, sqt_same s5 (.inl (.inl upd_same)), (fun z => by cases z), by omega, (by show 1 ≤ 1000; decide), fun t6 H6 s6 ht6 => ?_⟩
          refine k t6 _ H6 (S4.trans (s5.trans s6)) ht6 ?_
          rw [bnds_no el, eh, hul]
          exact dps_rep (.tup (sqt_same (s4.trans (s5.trans s6)) (.inl (.inl upd_same))) .nil) _
end
end K02

namespace K02
open PySem L2 Cm
def wordsG (sa : Bool) : List Str := if sa = true then ["set"] else ["name", "set"]
theorem in_G {h : Hd} {n : Nat} (o : hok h n) (sa : Bool) : inV (.str (wd h)) ((wordsG sa).map V.str) = !(own sa h).isEmpty := by
  have other : kd h ≠ 1 → kd h ≠ 3 → inV (.str (wd h)) ((wordsG sa).map V.str) = false := fun q q2 => by
    have key : ∀ sa : Bool, ∀ c < 10, c ≠ 1 → c ≠ 3 → ∀ w ∈ Cm.wordsOf c, inV (.str w) ((wordsG sa).map V.str) = false := by decide +kernel
    exact key sa _ (wd_mem o).1 q q2 _ (wd_mem o).2
  cases h with
  | name x => cases sa <;> rfl
  | one w x =>
    have key : ∀ sa : Bool, ∀ w ∈ oneW, inV (.str w) ((wordsG sa).map V.str) = decide (w = "set") := by decide +kernel
    show inV (.str w) _ = !(if w = "set" then [x] else [] : List Str).isEmpty
    rw [key sa w o.2.1]
    by_cases z : w = "set"
    · rw [if_pos z, decide_eq_true z]; rfl
    · rw [if_neg z, decide_eq_false z]; rfl
  | num i => exact other (Nat.ne_of_beq_eq_false rfl) (Nat.ne_of_beq_eq_false rfl)
  | lit i => exact other (Nat.ne_of_beq_eq_false rfl) (Nat.ne_of_beq_eq_false rfl)
  | fn i => exact other (Nat.ne_of_beq_eq_false rfl) (Nat.ne_of_beq_eq_false rfl)
  | bind i _ => exact other (Nat.ne_of_beq_eq_false rfl) (Nat.ne_of_beq_eq_false rfl)
  | doo => exact other (Nat.ne_of_beq_eq_false rfl) (Nat.ne_of_beq_eq_false rfl)
  | call => exact other (Nat.ne_of_beq_eq_false rfl) (Nat.ne_of_beq_eq_false rfl)
  | op i => exact other (Nat.ne_of_beq_eq_false rfl) (Nat.ne_of_beq_eq_false rfl)
  | plain i => exact other (Nat.ne_of_beq_eq_false rfl) (Nat.ne_of_beq_eq_false rfl)
theorem own_at {K : PySem.W.Frag} {H : Hp} {ds : List PyData} {h : Hd} {its : List V} {sa : Bool} (x : Items K H ds h its) (e : (!(own sa h).isEmpty) = true) : ∃ y, own sa h = [y] ∧ atI its 1 = some (.str y) := by
  cases h with
  | name y =>
    obtain rfl := (show its = _ from x)
    cases sa with
    | true => cases e
    | false => exact ⟨y, rfl, atI_nat (j := 1) rfl⟩
  | one w y =>
    obtain ⟨vs, rfl, _⟩ := x
    have e' : (!(if w = "set" then [y] else [] : List Str).isEmpty) = true := e
    by_cases z : w = "set"
    · exact ⟨y, if_pos z, atI_nat (j := 1) rfl⟩
    · rw [if_neg z] at e'
      cases e'
  | _ => cases e
/-- the names that a tree names outside are put into found -/
def spGather (K : PySem.W.Frag) (n : Nat) : Sp := fun vs H Q _ => ∃ (v : V) (wd bd fd : Addr) (t : Tr) (sa : Bool) (bound : List Str) (kvs : List (Key × V)) (ns : List Str), vs = [v, .ref wd, .ref bd, .ref fd] ∧
  Dp K H v t.enc ∧ t.ok ∧ t.dep ≤ n ∧ SqT K H wd ((wordsG sa).map V.str) ∧ SqT K H bd (bound.map V.str) ∧ bound.length + 100 * n ≤ 10000 ∧ H fd = some (.dK kvs) ∧ kvs.map (·.1) = ns.map Sum.inr ∧ ns.Nodup ∧ ns.length + t.size ≤ 10000000 ∧
  ∀ (kvs' : List (Key × V)) (ns' : List Str) (H' : Hp), Kd fd H H' → H' fd = some (.dK kvs') → kvs'.map (·.1) = ns'.map Sum.inr → ns'.Nodup → (∀ x, x ∈ ns' ↔ x ∈ ns ∨ (x ∈ t.free sa ∧ x ∉ bound)) → ns'.length ≤ ns.length + t.size → Q .non H'
theorem sizes_take' (ps : List Tr) : ∀ i, Tr.sizes (ps.take i) ≤ Tr.sizes ps := by
  induction ps with
  | nil => intro i; rw [List.take_nil]; exact Nat.le_refl _
  | cons a ps ih =>
    intro i
    cases i with
    | zero => exact Nat.zero_le _
    | succ i =>
      have := ih i
      show a.size + Tr.sizes (ps.take i) ≤ a.size + Tr.sizes ps
      omega
theorem ok_mk' {h : Hd} {ps : List Tr} (o : (Tr.mk h ps).ok) : hok h ps.length ∧ ps.length ≤ 11 ∧ ∀ t ∈ ps, t.ok := by
  have o' : hok h ps.length ∧ ps.length ≤ 11 ∧ Tr.oks ps := o
  exact ⟨o'.1, o'.2.1, fun t m => oks_iff.mp o'.2.2 t m⟩
theorem encL_at' {ps : List Tr} {i : Nat} {d : PyData} (h : (Tr.encL ps)[i]? = some d) : ∃ c, ps[i]? = some c ∧ d = c.enc := by
  rw [encL_map] at h
  obtain ⟨c, e1, e2⟩ := map_at h
  exact ⟨c, e1, e2⟩
theorem take_next {α : Type} {xs : List α} {i : Nat} {c : α} (h : xs[i]? = some c) : xs.take (i + 1) = xs.take i ++ [c] ∧ (xs.take i).length = i := by
  refine ⟨by rw [List.take_add_one, h]; rfl, ?_⟩
  have := (List.getElem?_eq_some_iff.mp h).1
  rw [List.length_take]
  omega
theorem encs_inv {K : PySem.W.Frag} {H : Hp} {v : V} {xs : List Str} (h : Dp K H v (encs xs)) : ∃ q, v = .ref q ∧ SqT K H q (xs.map V.str) := by
  obtain ⟨q, vs, rfl, hq, hv⟩ := dp_tup h
  rw [dpAll_strs_inv hv] at hq
  exact ⟨q, rfl, hq⟩
section
variable {P : Program} {w : World} {K : PySem.W.Frag} {mg : Str → Option Value} {base : Heap}
abbrev s_p_gather : Stmt := top 12
abbrev N_p_gather : List Str := ["tree", "words", "bound", "found", "part", "names"]
theorem sc_p_gather : FnScope N_p_gather ["tree", "words", "bound", "found"] (defScope s_p_gather) := ⟨rfl, rfl, rfl, by decide +kernel, rfl, by decide +kernel, by decide +kernel⟩
theorem ok_gather (T : Txt mg) (c_p_parts_of : Cl P w K mg base 1 "parts_of" (spParts K)) (c_p_names_bound : Cl P w K mg base 2 "names_bound" (spBound K)) (D : At K mg "_gather" s_p_gather ["tree", "words", "bound", "found"]) : ∀ n, Cl P w K mg base (n + 3) "_gather" (spGather K n) := by
  intro n
  induction n with
  | zero =>
    refine cl_of (k := 2) D sc_p_gather (fun vs H Q E h => ?_) fun f cdv A outer s H vs Q E hr h => ?_
    · obtain ⟨v, wd, bd, fd, t, sa, bound, kvs, ns, rfl, _⟩ := h
      rfl
    · obtain ⟨v, wd, bd, fd, t, sa, bound, kvs, ns, _, _, _, z, _⟩ := h
      cases t with
      | mk hd ps => exact absurd z (by show ¬ (Tr.deps ps + 1 ≤ 0); omega)
  | succ n ih =>
    refine cl_of (k := n + 3) D sc_p_gather (fun vs H Q E h => ?_) fun f cdv A outer s H vs Q E hr h => ?_
    · obtain ⟨v, wd, bd, fd, t, sa, bound, kvs, ns, rfl, _⟩ := h
      rfl
    · obtain ⟨v, wd, bd, fd, t, sa, bound, kvs, ns, rfl, hd, o, hdep, hwd, hbd, hbl, hfd, hks, hnd, hsz, k⟩ := h
      cases t with
      | mk h ps =>
      obtain ⟨o1, o2, o3⟩ := ok_mk' o
      have hsz' : ns.length + (Tr.sizes ps + 1) ≤ 10000000 := hsz
      obtain ⟨a, its, rfl, hs, hx⟩ := view hd
      have hu := hu_of hr
      have fle : flatDs (Tr.encL ps) = true := flat_encL ps
      refine ⟨_, (pss_mid (ps_if (PW.pt (pw_and (pt_cmpR op_in_seq (pe_ix ix_tup (pv 0) pe_int (fun _ _ => rfl)) (pv 1) (by rfl)) (pw_and1 (pt_cmpR op_notIn_seq (pe_ix ix_tup (pv 0) pe_int (fun _ _ => rfl)) (pv 2) (by rfl)))))
        (pss_one (ps_dput hu (pv 3) (pe_ix ix_tup (pv 0) pe_int (fun _ _ => rfl)) pe_bl rfl))
        pss_nil)
      (pss_one (ps_for PassesOwn.never rfl (RZ.pi_zipA (by rfl) T.zip (pa_cons (pe_c c_p_parts_of hr (by omega) (by rfl) (pa_cons (pv 0) pa_nil)) (pa_cons (pe_c c_p_names_bound hr (by omega) (by rfl) (pa_cons (pv 0) pa_nil)) pa_nil))) (pg_tup (by rfl) (pgs_cons (pg_name (i := 4) sc_p_gather.nd rfl (Or.inl rfl)) (pgs_cons (pg_name (i := 5) sc_p_gather.nd rfl (Or.inl rfl)) pgs_nil)))
        (pss_one (ps_expr (pe_c ih hr (by omega) (by rfl) (pa_cons (pv 4) (pa_cons (pv 1) (pa_cons (pe_op op_catA (pv 2) (pv 5)) (pa_cons (pv 3) pa_nil)))))))))), ?_⟩
      refine ⟨fun σ' H' => σ' = [some (.ref a), some (.ref wd), some (.ref bd), some (.ref fd), none, none] ∧ Kd fd H H' ∧ ∃ (kvs1 : List (Key × V)) (ns1 : List Str), H' fd = some (.dK kvs1) ∧ kvs1.map (·.1) = ns1.map Sum.inr ∧ ns1.Nodup ∧
          (∀ x, x ∈ ns1 ↔ x ∈ ns ∨ (x ∈ own sa h ∧ x ∉ bound)) ∧ ns1.length ≤ ns.length + 1, ?_, ?_⟩
      · refine ⟨_, rfl, a, its, _, _, rfl, rfl, hs, hx.head, _, rfl, wd, _, rfl, .inr hwd, rfl, flat_strV _, _, rfl, ?_⟩
        show if inV (.str (Cm.wd h)) ((wordsG sa).map V.str) = true then _ else _
        rw [in_G o1]
        cases eo : !(own sa h).isEmpty with
        | false =>
          have e0 : own sa h = [] := by
            cases q : own sa h with
            | nil => rfl
            | cons x r => rw [q] at eo; cases eo
          refine iteF (iteF ⟨rfl, .of_same hfd (Same.refl _), kvs, ns, hfd, hks, hnd, fun x => ?_, by omega⟩)
          rw [e0]
          exact ⟨.inl, fun z => z.elim id fun z => absurd z.1 (List.not_mem_nil)⟩
        | true =>
          obtain ⟨y, ey, e1⟩ := own_at hx eo
          refine iteT ⟨_, rfl, a, its, _, _, rfl, rfl, hs, e1, _, rfl, bd, _, rfl, .inr hbd, rfl, flat_strV _, _, rfl, ?_⟩
          show if (!inV (.str y) (bound.map V.str)) = true then _ else _
          rw [in_words]
          by_cases q : y ∈ bound
          · rw [decide_eq_true q]
            refine iteF ⟨rfl, .of_same hfd (Same.refl _), kvs, ns, hfd, hks, hnd, fun x => ?_, by omega⟩
            rw [ey]
            refine ⟨.inl, fun z => z.elim id fun z => ?_⟩
            rw [List.mem_singleton.mp z.1] at z
            exact absurd q z.2
          · rw [decide_eq_false q]
            refine iteT ⟨_, rfl, _, rfl, a, its, _, _, rfl, rfl, hs, e1, fd, _, rfl, DPut.k (k := Sum.inr y) hfd ?_, ?_⟩
            · have e := congrArg List.length hks
              rw [List.length_map, List.length_map] at e
              rw [e, sizeLine_eq]
              omega
            · refine ⟨rfl, .put hfd, _, _, upd_same, putK_keys hks y _, ?_, fun x => ?_, ?_⟩
              · split
                · exact hnd
                · rename_i m
                  exact List.nodup_append.mpr ⟨hnd, List.nodup_cons.mpr ⟨List.not_mem_nil, List.nodup_nil⟩, fun a ha b hb e => by
                    rw [List.mem_singleton.mp hb] at e
                    exact m (e ▸ ha)⟩
              · rw [ey]
                split
                · rename_i m
                  refine ⟨.inl, fun z => z.elim id fun z => ?_⟩
                  rw [List.mem_singleton.mp z.1]
                  exact m
                · rw [List.mem_append, List.mem_singleton]
                  exact ⟨fun z => z.elim .inl fun z => .inr ⟨z, z ▸ q⟩, fun z => z.elim .inl fun z => .inr z.1⟩
              · split
                · omega
                · rw [List.length_append]
                  exact Nat.le_refl _
      · rintro σ' H0 ⟨rfl, kd0, kvs1, ns1, hfd1, hks1, hnd1, hmem1, hlen1⟩
        have hd0 : Dp K H0 (.ref a) (encH h (Tr.encL ps)) := kd0.dp (flat_enc (.mk h ps)) hd
        refine ⟨_, rfl, .ref a, h, Tr.encL ps, rfl, hd0, by rw [encL_len]; exact o1, fle, by rw [encL_len]; omega, fun t us H1 s1 ht hus => ?_⟩
        refine ⟨_, rfl, .ref a, h, Tr.encL ps, rfl, dp_same s1 _ _ hd0, by rw [encL_len]; exact o1, fle, by rw [encL_len]; omega, fun t2 us2 H2 s2 ht2 hus2 => ?_⟩
        rw [encL_len] at hus2
        have hul := DpAll.len hus
        have hul2 := DpAll.len hus2
        rw [encL_len] at hul
        have hul3 : us2.length = ps.length := by
          rw [hul2]
          unfold bnds
          rw [List.length_map, List.length_range]
        refine ⟨t, t2, us, us2, rfl, .inr ⟨sqt_same s2 ht, ht2, ?_⟩⟩
        have s12 := s1.trans s2
        have kd2 : Kd fd H H2 := kd0.trans (.of_same hfd1 s12)
        have hus' := dps_same s2 _ _ hus
        refine for_it (walk_zipT (xs := us) (ys := us2) (n := ps.length) (by omega)) (fun i σ H' => ∃ (v4 v5 : Option V) (kvs3 : List (Key × V)) (ns3 : List Str), σ = [some (.ref a), some (.ref wd), some (.ref bd), some (.ref fd), v4, v5] ∧ Kd fd H2 H' ∧ H' fd = some (.dK kvs3) ∧ kvs3.map (·.1) = ns3.map Sum.inr ∧ ns3.Nodup ∧
            (∀ x, x ∈ ns3 ↔ x ∈ ns ∨ (x ∈ own sa h ++ Tr.frees sa h ps.length 0 (ps.take i) ∧ x ∉ bound)) ∧ ns3.length ≤ ns.length + 1 + Tr.sizes (ps.take i))
          ⟨none, none, kvs1, ns1, rfl, .of_same (s12 _ _ hfd1) (Same.refl _), s12 _ _ hfd1, hks1, hnd1, (fun x => by rw [hmem1]; show _ ↔ _ ∨ (x ∈ own sa h ++ [] ∧ _); rw [List.append_nil]), hlen1⟩ (fun i σ H' _ z => ?_) ?_ ?_
        · obtain ⟨_, _, _, _, _, z, _⟩ := z
          exact ⟨z.tup (sqt_same s2 ht), z.tup ht2⟩
        · rintro i v σ H3 H4 hi ⟨v4, v5, kvs3, ns3, rfl, kd3, hfd3, hks3, hnd3, hmem3, hlen3⟩ ⟨T1, x1, x2, rfl, hT, rfl, e1, e2⟩
          have s4 := same_new (o := .tup [x1, x2]) hT
          obtain ⟨d1, g1, g2⟩ := DpAll.atV hus' e1
          obtain ⟨c, ec, rfl⟩ := encL_at' g1
          obtain ⟨d2, g3, g4⟩ := DpAll.atV hus2 e2
          rw [under_at hi] at g3
          cases g3
          have kd4 : Kd fd H2 (upd H3 T1 (.tup [x1, x2])) := kd3.trans (.of_same hfd3 s4)
          have fd4 := s4 _ _ hfd3
          refine ⟨T1, _, rfl, .inl (.inl upd_same), rfl, _, _, rfl, _, _, rfl, rfl, ?_⟩
          generalize upd H3 T1 (.tup [x1, x2]) = H4 at *
          obtain ⟨q2, rfl, hq2⟩ := encs_inv (kd4.dp (flat_strs _) g4)
          have hcm : c ∈ ps := List.mem_of_getElem? ec
          obtain ⟨et, el⟩ := take_next ec
          have hul5 := under_len o1 o2 ps.length i
          have hst := sizes_take' ps (i + 1)
          rw [et, sizes_snoc] at hst
          refine ⟨_, rfl, _, rfl, _, rfl, _, rfl, ?_⟩
          refine cat_any ((kd2.trans kd4).tup hbd) hq2 (by rw [List.length_map, List.length_map, sizeLine_eq]; omega) fun t5 H5 s5 ht5 => ?_
          have kd5 : Kd fd H2 H5 := kd4.trans (.of_same fd4 s5)
          rw [← List.map_append] at ht5
          refine ⟨_, rfl, x1, wd, t5, fd, c, sa, bound ++ under h ps.length i, kvs3, ns3, rfl, kd5.dp (flat_enc c) g2, o3 c hcm, dep_mk.mp hdep c hcm, (kd2.trans kd5).tup hwd, ht5, by rw [List.length_append]; omega, s5 _ _ fd4, hks3, hnd3, by omega, fun kvs6 ns6 H6 kd6 hfd6 hks6 hnd6 hmem6 hlen6 => ?_⟩
          refine ⟨_, _, kvs6, ns6, rfl, kd5.trans kd6, hfd6, hks6, hnd6, fun x => ?_, by rw [et, sizes_snoc]; omega⟩
          rw [hmem6, hmem3, et, frees_snoc, el, Nat.zero_add, List.mem_append, List.mem_append, List.mem_append, List.mem_append, List.mem_filter]
          by_cases h1 : x ∈ ns <;> by_cases h2 : x ∈ bound <;> by_cases h3 : x ∈ under h ps.length i <;> by_cases h4 : x ∈ c.free sa <;> by_cases h5 : x ∈ own sa h <;> simp [h1, h2, h3, h4, h5]
        · rintro σ H3 ⟨v4, v5, kvs3, ns3, rfl, kd3, hfd3, hks3, hnd3, hmem3, hlen3⟩
          rw [List.take_of_length_le (Nat.le_refl _)] at hmem3 hlen3
          exact k kvs3 ns3 H3 (kd2.trans kd3) hfd3 hks3 hnd3 (fun x => hmem3 x) (by show ns3.length ≤ ns.length + (Tr.sizes ps + 1); omega)
/-- the names of a tree, ascending -/
def spNames2 (K : PySem.W.Frag) (sa : Bool) : Sp := fun vs H Q _ => ∃ (v : V) (t : Tr), vs = [v] ∧ Dp K H v t.enc ∧ t.ok ∧ t.dep ≤ 12 ∧ t.size ≤ 10000000 ∧
  ∀ (r : Addr) (ys : List Str) (H' : Hp), Same H H' → SqT K H' r (ys.map V.str) → Asc ys → (∀ x, x ∈ ys ↔ x ∈ t.free sa) → Q (.ref r) H'
theorem Kd.over {d : Addr} {H H' : Hp} {kvs : List (Key × V)} (n : H d = none) (k : Kd d (upd H d (.dK kvs)) H') : Same H H' := fun b o e => by
  have ne : b ≠ d := ne_of_none e n
  exact k.st b o ne (by rw [upd_ne ne]; exact e)
abbrev s_p_free_names : Stmt := top 10
abbrev N_p_free_names : List Str := ["tree", "found"]
theorem sc_p_free_names : FnScope N_p_free_names ["tree"] (defScope s_p_free_names) := ⟨rfl, rfl, rfl, by decide +kernel, rfl, by decide +kernel, by decide +kernel⟩
theorem ok_free_names (T : Txt mg) (c_p_gather : Cl P w K mg base 15 "_gather" (spGather K 12)) (D : At K mg "free_names" s_p_free_names ["tree"]) : Cl P w K mg base 16 "free_names" (spNames2 K false) := by
  refine cl_of D sc_p_free_names (fun vs H Q E h => ?_) fun f cdv A outer s H vs Q E hr h => ?_
  · obtain ⟨v, t, rfl, _⟩ := h
    rfl
  · obtain ⟨v, t, rfl, hd, o, hdep, hsz, k⟩ := h
    refine ⟨_, (pss_cons (ps_set (i := 1) sc_p_free_names.nd rfl (Or.inl rfl) pe_dnewK)
      (pss_cons (ps_expr (pe_c c_p_gather hr (by decide) (by rfl) (pa_cons (pv 0) (pa_cons (pe_tup (pa_cons pe_str (pa_cons pe_str pa_nil))) (pa_cons (pe_tup pa_nil) (pa_cons (pv 1) pa_nil))))))
      (pss_one (ps_ret (pe_tupleOf (by rfl) T.tuple (pe_callB (call_sortedDA rfl) (by rfl) T.sorted (by decide +kernel) (pa_cons (pv 1) pa_nil))))))), ?_⟩
    refine fun fd hfd => ?_
    have s1 := same_new (o := .dK []) hfd
    refine ⟨_, rfl, by show 2 ≤ sizeLine; decide, fun tw htw => ⟨by show 0 ≤ sizeLine; decide, fun tb htb => ?_⟩⟩
    have s2 := same_new (o := .tup [.str "name", .str "set"]) htw
    have s3 := same_new (o := .tup []) htb
    have s23 := s2.trans s3
    refine ⟨_, rfl, v, tw, tb, fd, t, false, [], [], [], rfl, dp_same (s1.trans s23) _ _ hd, o, hdep, sqt_same s3 (.inl (.inl upd_same)), .inl (.inl upd_same), by decide, s23 _ _ upd_same, rfl, .nil, by show 0 + t.size ≤ _; omega, fun kvs' ns' H' kd' hfd' hks' hnd' hmem' hlen' => ?_⟩
    have S' : Same H H' := Kd.over hfd ((Kd.of_same upd_same s23).trans kd')
    have hlen2 : ns'.length ≤ 0 + t.size := hlen'
    refine ⟨_, rfl, fd, kvs', ns', rfl, .inl hfd', hks', by omega, fun ys p hp hso np => ?_⟩
    obtain ⟨a1, a2⟩ := asc_of hp hso hnd'
    have s4 := same_new (o := .lst (ys.map V.str)) np
    refine .inl ⟨p, _, rfl, .inl (.inl upd_same), fun r hr' => ?_⟩
    have s5 := same_new (o := .tup (ys.map V.str)) hr'
    refine k r ys _ (S'.trans (s4.trans s5)) (.inl (.inl upd_same)) a1 fun x => ?_
    rw [a2, hmem']
    simp
abbrev s_p_set_names : Stmt := top 11
abbrev N_p_set_names : List Str := ["tree", "found"]
theorem sc_p_set_names : FnScope N_p_set_names ["tree"] (defScope s_p_set_names) := ⟨rfl, rfl, rfl, by decide +kernel, rfl, by decide +kernel, by decide +kernel⟩
theorem ok_set_names (T : Txt mg) (c_p_gather : Cl P w K mg base 15 "_gather" (spGather K 12)) (D : At K mg "set_names" s_p_set_names ["tree"]) : Cl P w K mg base 16 "set_names" (spNames2 K true) := by
  refine cl_of D sc_p_set_names (fun vs H Q E h => ?_) fun f cdv A outer s H vs Q E hr h => ?_
  · obtain ⟨v, t, rfl, _⟩ := h
    rfl
  · obtain ⟨v, t, rfl, hd, o, hdep, hsz, k⟩ := h
    refine ⟨_, (pss_cons (ps_set (i := 1) sc_p_set_names.nd rfl (Or.inl rfl) pe_dnewK)
      (pss_cons (ps_expr (pe_c c_p_gather hr (by decide) (by rfl) (pa_cons (pv 0) (pa_cons (pe_tup (pa_cons pe_str pa_nil)) (pa_cons (pe_tup pa_nil) (pa_cons (pv 1) pa_nil))))))
      (pss_one (ps_ret (pe_tupleOf (by rfl) T.tuple (pe_callB (call_sortedDA rfl) (by rfl) T.sorted (by decide +kernel) (pa_cons (pv 1) pa_nil))))))), ?_⟩
    refine fun fd hfd => ?_
    have s1 := same_new (o := .dK []) hfd
    refine ⟨_, rfl, by show 1 ≤ sizeLine; decide, fun tw htw => ⟨by show 0 ≤ sizeLine; decide, fun tb htb => ?_⟩⟩
    have s2 := same_new (o := .tup [.str "set"]) htw
    have s3 := same_new (o := .tup []) htb
    have s23 := s2.trans s3
    refine ⟨_, rfl, v, tw, tb, fd, t, true, [], [], [], rfl, dp_same (s1.trans s23) _ _ hd, o, hdep, sqt_same s3 (.inl (.inl upd_same)), .inl (.inl upd_same), by decide, s23 _ _ upd_same, rfl, .nil, by show 0 + t.size ≤ _; omega, fun kvs' ns' H' kd' hfd' hks' hnd' hmem' hlen' => ?_⟩
    have S' : Same H H' := Kd.over hfd ((Kd.of_same upd_same s23).trans kd')
    have hlen2 : ns'.length ≤ 0 + t.size := hlen'
    refine ⟨_, rfl, fd, kvs', ns', rfl, .inl hfd', hks', by omega, fun ys p hp hso np => ?_⟩
    obtain ⟨a1, a2⟩ := asc_of hp hso hnd'
    have s4 := same_new (o := .lst (ys.map V.str)) np
    refine .inl ⟨p, _, rfl, .inl (.inl upd_same), fun r hr' => ?_⟩
    have s5 := same_new (o := .tup (ys.map V.str)) hr'
    refine k r ys _ (S'.trans (s4.trans s5)) (.inl (.inl upd_same)) a1 fun x => ?_
    rw [a2, hmem']
    simp
end
end K02

set_option linter.all false
/-! own exceptions that are made as values, their fields, isinstance of them -/
namespace Cm
open PySem L2 PySem.Spec PyProof.Rows
/-- a made exception with fields fs -/
def ExV (H : Hp) (a C : Addr) (fs : List (Str × V)) : Prop := ∃ d, H a = some (exo a C (some d)) ∧ H d = some (exd d fs)
theorem ExV.same {H H' : Hp} {a C : Addr} {fs : List (Str × V)} (x : ExV H a C fs) (s : Same H H') : ExV H' a C fs := by
  obtain ⟨d, e1, e2⟩ := x
  exact ⟨d, s _ _ e1, s _ _ e2⟩
/-- C(e, ..) as a value, C's own __init__ keeping sp -/
def tMkV (C : Addr) (sp : Sp) (ta : TA) : TE := fun σ H Q => ta σ H fun vs H1 => vs.length ≤ 1000 ∧ ∀ a, H1 a = Option.none → sp (.ref a :: vs) (upd H1 a (exo a C Option.none)) (fun v H2 => v = .non ∧ Q (.ref a) H2) E0
theorem pe_mkV {X : Cx} {x : Str} {C fI : Addr} {k : Nat} {fd : FuncData} {ps : List Str} {sp : Sp} {e : Expr} {es : List Expr} {ta : TA} {p pos : Pos} (T : OexC X.K C) (iC : PySem.W.findIn X.K (.ref C) "__init__" = some (some (.ref fI))) (tI : PySem.W.typeIn X.K (.ref fI) = some (.type "function"))
    (F1 : FnOk X.prog X.w X.K X.mg X.base CX0 k fI fd ps sp) (hr : Room (k + 1) X.A) (hb : Binds X.K fd ps []) (hg : Gl X x) (hm : X.mg x = some (.ref C)) (ha : PA X (e :: es) ta)
    (hdb : (x == ("__debug__" : Str)) = false := by decide) (he : starEach (e :: es) X.env = (false, eval e X.env) :: starEach es X.env := by rfl) (hpl : (backTo pos (starEach es X.env)).any (·.1) = false := by rfl) :
    PE X (.Call (.Name x p) (e :: es) [] pos) (tMkV C sp ta) := by
  refine ⟨fun pins s σ H Q I h => ?_⟩
  obtain ⟨nm, q, N, bs, bm, sn, sub, ab, col, dd, k0, k1, k2, k3, k5, hC, hbm⟩ := T.cls
  refine wpAny_Call_Name_kw (ld_glob I hg hm ?_ hdb)
  refine PySem.W.callWith_K (h₀ := X.base) I.ok.mod.kin T.kC (thn (ha.run pos pins s σ H _ I h) fun us s1 ⟨vs, H1, I1, r1, hz, q1⟩ => ⟨I1.kIn, ?_⟩) he hpl
  show wpAny _ _ (call (.ref C) us) _ _ _
  obtain ⟨hp, g, dr, tk, os⟩ := s1
  have hsz : hp.objs.size ≤ hp.objs.size + 1 := Nat.le_succ _
  have hq := q1 (hp.objs.size + 1) (I1.hok.fresh hsz)
  have hget : ((hp.push (PySem.W.kdv_tup us)).push (PySem.HandSPX.excO C hp.objs.size)).get? (hp.objs.size + 1) = some (PySem.HandSPX.excO C hp.objs.size) := by heap_get
  have I2 : Inv X pins σ (upd H1 (hp.objs.size + 1) (exo (hp.objs.size + 1) C Option.none)) ⟨(hp.push (PySem.W.kdv_tup us)).push (PySem.HandSPX.excO C hp.objs.size), g, dr, tk, os⟩ :=
    I1.laid (t' := tk) (a := hp.objs.size + 1) (o := exo (hp.objs.size + 1) C Option.none) (fun b o e => Heap.get?_push_of_some _ (Heap.get?_push_of_some _ e)) hsz (exo_ok hget)
  have r2 : Vals (V.ref (hp.objs.size + 1) :: vs) (Value.ref (hp.objs.size + 1) :: us) := .cons rfl r1
  have hl : (Value.ref (hp.objs.size + 1) :: us).length = ps.length := by
    have e := r2.length
    rw [F1.len _ _ _ _ hq] at e
    exact e.symm
  have hus : us.length ≤ sizeLine := by
    rw [← Paired.length r1, sizeLine_eq]
    omega
  have hbb := hb ⟨(hp.push (PySem.W.kdv_tup us)).push (PySem.HandSPX.excO C hp.objs.size), g, dr, tk, os⟩ (Value.ref (hp.objs.size + 1) :: us) I2.kIn (by rw [List.append_nil]; exact hl)
  rw [List.append_nil] at hbb
  refine wpAny_call (PySem.HandSPX.call_own F.excBase_ValueError (fun Y => PySem.HandSPX.refsVE_contains Y bm hbm) (I1.kIn _ _ hC) (PySem.W.looks_findIn I1.kIn iC) (fun self => PySem.W.bind_fn I1.kIn self tI) hus
    (codeAny_mono (F1.run _ X.stack _ _ ⟨Value.ref (hp.objs.size + 1) :: us, []⟩ (Value.ref (hp.objs.size + 1) :: us) _ _ E0 (hr.make C us []) (I2.env0.make C us []) hbb r2 hq) fun r s' hq' => ?_))
  cases r with
  | error er => exact pass0 pins σ _ _ er s' I2 hq'
  | ok fl =>
    cases fl with
    | ret u =>
      obtain ⟨v, H2, J, rv, ev, q2⟩ := I2.after hq'
      subst ev
      exact ⟨rv, .ref (hp.objs.size + 1), H2, J, rfl, q2⟩
    | next => exact False.elim hq'
    | brk => exact False.elim hq'
    | cont => exact False.elim hq'
/-! ### x.f -/
def tFldE (K : PySem.W.Frag) (f : Str) (te : TE) : TE := fun σ H Q => te σ H fun x H1 => ∃ (a C : Addr) (fs : List (Str × V)) (v : V), x = .ref a ∧ XfC K C ∧ PySem.W.findIn K (.ref C) f = some Option.none ∧ ExV H1 a C fs ∧ fs.lookup f = some v ∧ Q v H1
theorem pe_fldE {X : Cx} {e : Expr} {te : TE} {pos : Pos} {n : Str} (he : PE X e te) (hb : attributeBase e n X.env (eval e X.env) = eval e X.env := by rfl) : PE X (.Attribute e n pos) (tFldE X.K n te) := by
  refine ⟨fun pins s σ H Q I h => ?_⟩
  refine attr_of hb (thn (he.run pins s σ H _ I h) fun u s1 hh => ?_)
  obtain ⟨x, H1, I1, rx, a, C, fs, v, ex, T, hno, ⟨dd, eh, ea⟩, l, q⟩ := hh
  subst ex
  obtain rfl : u = Value.ref a := rx
  obtain ⟨t1, ho⟩ := exo_at I1.hok eh
  obtain ⟨mA, hns, hr⟩ := exd_at I1.hok ea
  obtain ⟨od, hod, hl⟩ := lookIn_ns hns
  obtain ⟨u, hu, ru⟩ := RelO.some_of (v := v) (o := mA n) (by rw [← l]; exact hr n)
  have J : PySem.W.InstAt s1.heap a { cls := .ref C, dict := some dd, data := .fields #[.ref t1, .none, .none, .none, .bool false, .none] } C (some od) := ⟨ho, rfl, rfl, hod⟩
  exact HandSPX.exc_get I1.kIn J T.ga T.gg T.exC (PySem.W.findObj_own T.hdC hno rfl (by rw [hl, hu])) (handed_of ru) ⟨v, H1, I1.tok _, ru, q⟩
end Cm
/-! ### isinstance(x, D), whichever class (after the library's rule for an exception without a dict) -/
namespace PySem.W
open PySem PySem.Spec PySem.Calls PyProof.Rows
theorem cls_ofExc {prog : Program} {w : World} {A : Around} {E : Value → Shared → Prop} {s : Shared} {K : Frag} {x D : Addr} {ox od : Obj} {Q : Option Value → Shared → Prop} (T : L2.ExcC K D) (X : K.In s.heap) (I : InstAt s.heap x ox D (some od))
    (h : Q (some (.ref D)) { s with toks := s.toks + 1 }) : wpAny (model prog w) A (getAttr? (.ref x) "__class__") Q E s := by
  have hf : findObj K D (some od) "__class__" = some (.bind (.builtin "getset_descriptor.__get__") (.builtin "object.__class__")) := findObj_data (by obtain ⟨cd, hc, _⟩ := any_some T.hd; rw [hc]; rfl) T.ha T.hn T.ht
  obtain ⟨hp, g, d, t, os⟩ := s
  have L0 := I.type (M := model prog w)
  have L1 := looks_findIn (M := model prog w) X T.hg
  have L2 := looks_findIn (M := model prog w) X T.hk
  have L3 := looks_find (M := model prog w) X I hf
  have sub : Looks (model prog w) hp (isInstance (.ref x) (.type "BaseException")) true := L0.andThen (looks_subIn X T.hs)
  have ne : (Value.builtin "BaseException.__getattribute__" == Value.builtin "object.__getattribute__") = false := by decide +kernel
  unfold getAttr? getAttrBy? getAttrBy
  refine wpAny_bind (wpAny_mkText (wpAny_bind (wpAny_attempt (wpAny_holding (wpAny_bind (L0.at (wpAny_bind (L1.at ?_))))))))
  show wpAny _ _ (if (onTheHeap (Value.ref D) && Value.builtin "BaseException.__getattribute__" == Value.builtin "object.__getattribute__") = true then _ else _) _ _ _
  rw [show (onTheHeap (Value.ref D) && Value.builtin "BaseException.__getattribute__" == Value.builtin "object.__getattribute__") = false by rw [ne]; rfl, if_neg Bool.false_ne_true]
  unfold getAttrByItsOwn hookBefore
  refine wpAny_bind ?_
  rw [if_pos (show onTheHeap (Value.ref D) = true from rfl)]
  refine L2.at (wpAny_bind (wpAny_attempt (wpAny_holding ?_)))
  unfold callGetattribute
  rw [show (false && onTheHeap (Value.builtin "BaseException.__getattribute__")) = false from rfl, if_neg Bool.false_ne_true]
  unfold boundAndCalled
  rw [PySem.F.excAttr_ValueError.ga.bind (.ref x)]
  refine wpAny_bind (wpAny_pure ?_)
  show wpAny _ _ (call (.builtin "BaseException.__getattribute__") [.ref x, .str "__class__" t]) _ _ _
  refine wpAny_call (codeAny_call_builtin PySem.F.excAttr_ValueError.ga.plain PySem.F.entry_bexc_ga ?_)
  refine @check_slot (model prog w) _ _ ⟨hp, g, d, t + 1, os⟩ "BaseException.__getattribute__" "BaseException" "__getattribute__" (.ref x) [.str "__class__" t] [] _ (by decide +kernel) (by decide +kernel) sub (PySem.F.args_bexc_ga (.ref x) (.str "__class__" t)) ?_
  unfold Builtin.«object.__getattribute__»
  refine wpAny_bind (wpAny_of_eq (a := ((Value.ref x : Value), [Value.str "__class__" t])) (by first | rfl | (simp only [slotArgs]; rfl)) ?_)
  refine wpAny_bind (wpAny_pure (wpAny_bind (L0.at (wpAny_bind (L3.at ?_)))))
  show wpAny _ _ (holding [Value.builtin "object.__class__"] (call (.builtin "getset_descriptor.__get__") [.builtin "object.__class__", .ref x, .ref D]) >>= ret) _ _ _
  refine wpAny_bind (wpAny_holding (wpAny_call (class_get (s := ⟨hp, g, d, t + 1, os⟩) (ox := ox) (od := some od) X I T.hm ?_)))
  refine wpAny_pure ?_
  show wpAny _ _ (handedOut (.ref D)) _ _ _
  rw [handedOut_of (v := .ref D) rfl]
  first
    | exact wpAny_pure (wpAny_pure h)
    | exact wpAny_pure h
    | exact wpAny_pure (wpAny_bind (wpAny_pure (wpAny_pure h)))
theorem kit_ofExc {K : Frag} {x D : Addr} {ox od : Obj} (T : L2.ExcC K D) : KitX K (.ref x) (.ref D) (fun h => InstAt h x ox D (some od)) where
  ty := fun _ _ _ I => I.type
  it := fun _ _ X _ => by
    obtain ⟨cdD, hcD, _⟩ := any_some T.hd
    unfold clsIn at hcD
    split at hcD
    · rename_i c' d' cd' sl' ho
      intro A' Q' E' s' k q
      unfold isType loadHead
      exact wpAny_bind (wpAny_loadPart (k _ _ (X _ _ ho)) (wpAny_pure q))
    · cases hcD
  ne := fun h tp dd its n sl X htp => by
    obtain ⟨cdD, hcD, _⟩ := any_some T.hd
    refine Bool.eq_false_iff.mpr fun q => ?_
    have e : D = tp := Value.ref.inj (beq_iff_eq.mp q)
    subst e
    unfold clsIn at hcD
    split at hcD
    · rename_i c' d' cd' sl' ho
      have z := (X _ _ ho).symm.trans htp
      cases z
    · cases hcD
  ca := fun X I k => cls_ofExc T X I k
end PySem.W
namespace Cm
open PySem L2 PySem.Spec PyProof.Rows
def rIsV (K : PySem.W.Frag) : List V → Hp → VK → Prop := fun xs H Q => ∃ (a C : Addr) (fs : List (Str × V)) (c : V) (cv : Value) (b : Bool), xs = [.ref a, c] ∧ ClsV c cv ∧ ExcC K C ∧ ExV H a C fs ∧ PySem.W.kitOne K (.ref C) cv = some b ∧ Q (.bl b) H
theorem call_isV {X : Cx} : CallR X (.builtin "isinstance") (rIsV X.K) := by
  intro pins s σ H xs us Q I r h
  obtain ⟨a, C, fs, c, cv, b, rfl, kc, T, ⟨dd, eh, ea⟩, e, q⟩ := h
  obtain ⟨u1, u2, rfl, r1, r2⟩ := vals2 r
  obtain rfl : u1 = Value.ref a := r1
  have e2 := kc.eq r2
  subst e2
  obtain ⟨t1, ho⟩ := exo_at I.hok eh
  obtain ⟨mA, hns, hr⟩ := exd_at I.hok ea
  obtain ⟨od, hod, hl⟩ := lookIn_ns hns
  have J : PySem.W.InstAt s.heap a { cls := .ref C, dict := some dd, data := .fields #[.ref t1, .none, .none, .none, .bool false, .none] } C (some od) := ⟨ho, rfl, rfl, hod⟩
  exact PySem.W.kia_one (PySem.W.kit_ofExc T) I.kIn J e (fun z => nomatch z) fun tk => ⟨.bl b, H, I.tok tk, rfl, q⟩
end Cm

set_option linter.all false
/-! classes of errors with fields: what is needed of each -/
namespace Cm
open PySem L2 PySem.Spec PyProof.Rows
/-- what an __init__ that stores its parameters leaves -/
def spI (K : PySem.W.Frag) (fl : List Str) : Sp := fun vs H Q _ => ∃ (a C : Addr) (xs : List V), vs = .ref a :: xs ∧ xs.length = fl.length ∧ OexC K C ∧ (∀ f ∈ fl, PySem.W.findIn K (.ref C) f = some Option.none) ∧ H a = some (exo a C Option.none) ∧
  ∀ (d : Addr) (H' : Hp), H d = Option.none → d ≠ a → (∀ b o, b ≠ a → H b = some o → H' b = some o) → H' a = some (exo a C (some d)) → H' d = some (exd d (fl.zip xs).reverse) → Q .non H'
structure Mk (P : Program) (w : World) (K : PySem.W.Frag) (mg : Str → Option Value) (base : Heap) (C : Addr) (x : Str) (fl : List Str) : Prop where
  oex : OexC K C
  g : mg x = some (.ref C)
  xf : XfC K C
  ec : ExcC K C
  no : ∀ f ∈ fl, PySem.W.findIn K (.ref C) f = some Option.none
  init : ∃ (fI : Addr) (fd : FuncData) (ps : List Str), PySem.W.findIn K (.ref C) "__init__" = some (some (.ref fI)) ∧ PySem.W.typeIn K (.ref fI) = some (.type "function") ∧ FnOk P w K mg base CX0 1 fI fd ps (spI K fl) ∧ Binds K fd ps []
def tMk (C : Addr) (fl : List Str) (ta : TA) : TE := fun σ H Q => ta σ H fun vs H1 => vs.length = fl.length ∧ ∀ a H', Same H1 H' → ExV H' a C (fl.zip vs).reverse → Q (.ref a) H'
theorem pe_mk {X : Cx} {x : Str} {C : Addr} {fl : List Str} {j : Nat} {e : Expr} {es : List Expr} {ta : TA} {p pos : Pos} (M : Mk X.prog X.w X.K X.mg X.base C x fl) (hr : Room j X.A) (hk : 2 ≤ j) (hl : fl.length ≤ 1000) (hg : Gl X x) (ha : PA X (e :: es) ta)
    (hdb : (x == ("__debug__" : Str)) = false := by decide) (he : starEach (e :: es) X.env = (false, eval e X.env) :: starEach es X.env := by rfl) (hpl : (backTo pos (starEach es X.env)).any (·.1) = false := by rfl) :
    PE X (.Call (.Name x p) (e :: es) [] pos) (tMk C fl ta) := by
  obtain ⟨fI, fd, ps, h1, h2, F, b⟩ := M.init
  have ha' : PA X (e :: es) (fun σ H Q => ∃ Q0, ta σ H Q0 ∧ ∀ vs H1, Q0 vs H1 → Q vs H1) := ⟨fun pos pins s σ H Q I ⟨Q0, h0, imp⟩ =>
    wpAny_mono (ha.run pos pins s σ H Q0 I h0) (fun us s1 ⟨vs, H1, I1, r, q⟩ => ⟨vs, H1, I1, r, imp _ _ q⟩) (fun _ _ z => z)⟩
  have R := pe_mkV (p := p) (pos := pos) M.oex h1 h2 F (hr.mono hk) b hg M.g ha' hdb he hpl
  refine ⟨fun pins s σ H Q I h => R.run pins s σ H Q I ⟨_, h, fun vs H1 ⟨hv, hq⟩ => ⟨by omega, fun a ha0 => ?_⟩⟩⟩
  refine ⟨a, C, vs, rfl, hv, M.oex, M.no, upd_same, fun d H' _ _ keep ea ed => ⟨rfl, hq a H' (fun b o q => ?_) ⟨d, ea, ed⟩⟩⟩
  have hb : b ≠ a := fun z => by
    rw [z, ha0] at q
    cases q
  exact keep b o hb (by rw [upd_ne hb]; exact q)
/-- self.f = x, then perhaps self.g = y -/
theorem init1 {K : PySem.W.Frag} {H : Hp} {a C : Addr} {f : Str} {x : V} {Q : Hp → Prop} (T : OexC K C) (no : PySem.W.findIn K (.ref C) f = some Option.none) (ha : H a = some (exo a C Option.none))
    (k : ∀ (d : Addr) (H' : Hp), H d = Option.none → d ≠ a → (∀ b o, b ≠ a → H b = some o → H' b = some o) → H' a = some (exo a C (some d)) → H' d = some (exd d [(f, x)]) → Q H') :
    ∃ a' C', V.ref a = .ref a' ∧ OexC K C' ∧ PySem.W.findIn K (.ref C') f = some Option.none ∧ ((H a' = some (exo a' C' Option.none) ∧ ∀ dx, H dx = Option.none → dx ≠ a' → Q (upd (upd H dx (exd dx [(f, x)])) a' (exo a' C' (some dx)))) ∨
      ∃ (dx : Addr) (fs : List (Str × V)), H a' = some (exo a' C' (some dx)) ∧ H dx = some (exd dx fs) ∧ fs.length ≤ 900 ∧ Q (upd H dx (exd dx ((f, x) :: fs)))) :=
  ⟨a, C, rfl, T, no, .inl ⟨ha, fun dx hd ne => k dx _ hd ne (fun b o hb e => by rw [upd_ne hb, upd_ne (ne_of_none e hd)]; exact e) upd_same (by rw [upd_ne ne]; exact upd_same)⟩⟩
theorem init2 {K : PySem.W.Frag} {H : Hp} {a C d : Addr} {g : Str} {y : V} {fs : List (Str × V)} {Q : Hp → Prop} (T : OexC K C) (no : PySem.W.findIn K (.ref C) g = some Option.none) (ha : H a = some (exo a C (some d))) (hd : H d = some (exd d fs)) (hl : fs.length ≤ 900) (ne : d ≠ a)
    (k : (∀ b o, b ≠ d → H b = some o → (upd H d (exd d ((g, y) :: fs))) b = some o) → Q (upd H d (exd d ((g, y) :: fs)))) :
    ∃ a' C', V.ref a = .ref a' ∧ OexC K C' ∧ PySem.W.findIn K (.ref C') g = some Option.none ∧ ((H a' = some (exo a' C' Option.none) ∧ ∀ dx, H dx = Option.none → dx ≠ a' → Q (upd (upd H dx (exd dx [(g, y)])) a' (exo a' C' (some dx)))) ∨
      ∃ (dx : Addr) (fs : List (Str × V)), H a' = some (exo a' C' (some dx)) ∧ H dx = some (exd dx fs) ∧ fs.length ≤ 900 ∧ Q (upd H dx (exd dx ((g, y) :: fs)))) :=
  ⟨a, C, rfl, T, no, .inr ⟨d, fs, ha, hd, hl, k fun b o hb e => by rw [upd_ne hb]; exact e⟩⟩
end Cm

set_option linter.all false
/-! an error without arguments; isinstance of errors of any kind -/
namespace Cm
open PySem L2 PySem.Spec PyProof.Rows
theorem pe_exc0 {X : Cx} {C : Addr} {bmB : List Value} {B newId initId : String} {x : Str} {p pos : Pos} (F : ExcBaseFacts B newId initId bmB) (q : PySem.W.excIn X.K C bmB newId = true) (gC : X.mg x = some (.ref C)) (kC : PySem.W.keepIn X.K (.ref C) = true) (hg : Gl X x)
    (hdb : (x == ("__debug__" : Str)) = false := by decide) :
    PE X (.Call (.Name x p) [] [] pos) (fun _ H Q => ∀ a, H a = Option.none → Q (.ref a) (upd H a (ExO (.ref C) a))) := by
  refine ⟨fun pins s σ H Q I h => ?_⟩
  refine wpAny_Call_Name_kw (ld_glob I hg gC ?_ hdb)
  refine PySem.W.callWith_K0 I.kIn kC ?_
  show wpAny _ _ (call (.ref C) []) _ _ _
  obtain ⟨bm, N, nm, qn, bs, hdct, sn, sub, ab, col, dd, k0, k1, k2, k3, k5, mN, hC, hN, hni, T⟩ := exc_obj I.kIn q
  refine wpAny_call_exc_subT F T hC hN hni (fun h' a hm => ?_) (by show 0 ≤ sizeLine; rw [sizeLine_eq]; omega)
  have hn : H a = Option.none := I.hok.gone hm.new
  obtain ⟨t, ht, _, _⟩ := hm.there
  exact ⟨.ref a, upd H a (ExO (.ref C) a), I.laidN hm.keeps hm.new hn (exO_ok ht ⟨rfl, rfl⟩ rfl rfl rfl (show 4 < 6 by decide)), rfl, h a hn⟩
/-- an error: with a dict, without, or kept behind a try -/
def ExA (H : Hp) (a C : Addr) : Prop := (∃ fs, ExV H a C fs) ∨ H a = some (ExO (.ref C) a) ∨ ∃ dd fs, H a = some (ExH a (.ref C) (some dd)) ∧ H dd = some (.xd fs)
theorem ExA.same {H H' : Hp} {a C : Addr} (x : ExA H a C) (s : Same H H') : ExA H' a C := by
  rcases x with ⟨fs, x⟩ | x | ⟨dd, fs, x, y⟩
  · exact .inl ⟨fs, x.same s⟩
  · exact .inr (.inl (s _ _ x))
  · exact .inr (.inr ⟨dd, fs, s _ _ x, s _ _ y⟩)
def rIsA (K : PySem.W.Frag) : List V → Hp → VK → Prop := fun xs H Q => ∃ (a C : Addr) (c : V) (cv : Value) (b : Bool), xs = [.ref a, c] ∧ ClsV c cv ∧ ExcC K C ∧ ExA H a C ∧ PySem.W.kitOne K (.ref C) cv = some b ∧ Q (.bl b) H
theorem call_isA {X : Cx} : CallR X (.builtin "isinstance") (rIsA X.K) := by
  intro pins s σ H xs us Q I r h
  obtain ⟨a, C, c, cv, b, rfl, kc, T, x, e, q⟩ := h
  rcases x with ⟨fs, x⟩ | x | ⟨dd, fs, eh, ea⟩
  · exact call_isV pins s σ H _ us Q I r ⟨a, C, fs, c, cv, b, rfl, kc, T, x, e, q⟩
  · obtain ⟨u1, u2, rfl, r1, r2⟩ := vals2 r
    obtain rfl : u1 = Value.ref a := r1
    have e2 := kc.eq r2
    subst e2
    have hx : ObjOk X.prog X.w H s.heap a (ExO (.ref C) a) := I.hok a _ x
    obtain ⟨oe, vs, ho, hz, hd, _⟩ := hx.1
    have J : PySem.W.InstAt s.heap a oe C Option.none := ⟨ho, hz.1, by unfold PySem.W.notCls; rw [hd] <;> rfl, by rw [hz.2]; trivial⟩
    exact PySem.W.kia_one (PySem.W.handS_kitx_exc T.hg T.hk T.hs T.hd T.ha T.hn T.ht T.hm) I.kIn J e (fun z => nomatch z) fun tk => ⟨.bl b, H, I.tok tk, rfl, q⟩
  · obtain ⟨u1, u2, rfl, r1, r2⟩ := vals2 r
    obtain rfl : u1 = Value.ref a := r1
    have e2 := kc.eq r2
    subst e2
    obtain ⟨oe, vs, ho, hz, hd⟩ := exH_at I.hok eh
    have hx : ObjOk X.prog X.w H s.heap dd (.xd fs) := I.hok dd _ ea
    obtain ⟨mA, hns, hr⟩ := hx
    obtain ⟨od, hod, hl⟩ := lookIn_ns hns
    have J : PySem.W.InstAt s.heap a oe C (some od) := ⟨ho, hz.1, by unfold PySem.W.notCls; rw [hd] <;> rfl, by rw [hz.2]; exact hod⟩
    exact PySem.W.kia_one (PySem.W.kit_ofExc T) I.kIn J e (fun z => nomatch z) fun tk => ⟨.bl b, H, I.tok tk, rfl, q⟩
end Cm

set_option linter.all false
/-! raise C(x, ..); try with two clauses of which the second catches and keeps -/
namespace Cm
open PySem L2 PySem.Spec PyProof.Rows
def tRaiseMk (C : Addr) (fl : List Str) (W : WX) (ta : TA) : TS := fun _ σ H => ta σ H fun vs H1 => vs.length = fl.length ∧ ∀ (d : Addr) (H' : Hp), Same H1 H' → H' d = some (.xd (fl.zip vs).reverse) → W (.ref C) (some d) σ H'
theorem ps_raiseMk {X : Cx} {x : Str} {C : Addr} {fl : List Str} {j : Nat} {W : WX} {e : Expr} {es : List Expr} {ta : TA} {p pos pos2 : Pos} (hc : X.calm = true) (M : Mk X.prog X.w X.K X.mg X.base C x fl) (hr : Room j X.A) (hk : 2 ≤ j) (hl : fl.length ≤ 1000) (tk : Takes X W) (hg : Gl X x) (ha : PA X (e :: es) ta)
    (hdb : (x == ("__debug__" : Str)) = false := by decide) (he : starEach (e :: es) X.env = (false, eval e X.env) :: starEach es X.env := by rfl) (hpl : (backTo pos (starEach es X.env)).any (·.1) = false := by rfl) :
    PS X (.Raise (some (.Call (.Name x p) (e :: es) [] pos)) Option.none pos2) (tRaiseMk C fl W ta) := by
  obtain ⟨fI, fd, ps, h1, h2, F, b⟩ := M.init
  have ha' : PA X (e :: es) (fun σ H Q => ∃ Q0, ta σ H Q0 ∧ ∀ vs H1, Q0 vs H1 → Q vs H1) := ⟨fun pos pins s σ H Q I ⟨Q0, h0, imp⟩ =>
    wpAny_mono (ha.run pos pins s σ H Q0 I h0) (fun us s1 ⟨vs, H1, I1, r, q⟩ => ⟨vs, H1, I1, r, imp _ _ q⟩) (fun _ _ z => z)⟩
  have R := ps_raise (pos := pos2) hc tk (pmk_oex (p := p) (pos := pos) M.oex h1 h2 F (hr.mono hk) b .nil (fun _ _ _ _ _ _ _ z => z.elim) hg M.g ha' hdb he hpl)
  refine ⟨fun pins s σ H D I h => R.run pins s σ H D I ⟨_, h, fun vs H1 ⟨hv, hq⟩ => ⟨by omega, fun a ha0 => ?_⟩⟩⟩
  refine ⟨a, C, vs, by rw [List.append_nil], hv, M.oex, M.no, upd_same, fun d H' hd ne keep ea ed => ⟨rfl, d, _, ea, ed, ?_, ?_⟩⟩
  · rw [upd_ne ne] at hd
    exact hd
  · have hd1 : H1 d = Option.none := by rw [upd_ne ne] at hd; exact hd
    refine hq d _ (fun b o q => ?_) upd_same
    have hb : b ≠ a := fun z => by
      rw [z, ha0] at q
      cases q
    rw [upd_ne (ne_of_none q hd1), del_ne hb]
    exact keep b o hb (by rw [upd_ne hb]; exact q)
/-- .. of two clauses, the second catches -/
def wHeld2 (K : PySem.W.Frag) (c1 c : Value) (i : Nat) (ts : Addr → TS) (D : Ends) : WX := fun cls d σ H =>
  PySem.W.exmOne K cls c1 = some false ∧ PySem.W.exmOne K cls c = some true ∧ ∀ a, H a = Option.none → ts a { nx := fun σ' H' => D.nx (σ'.set i Option.none) H', rt := D.rt, bk := fun σ' H' => D.bk (σ'.set i Option.none) H', ct := fun σ' H' => D.ct (σ'.set i Option.none) H' } (σ.set i (some (.ref a))) (upd H a (ExH a cls d))
section
variable {X : Cx} {x n x1 n1 : Str} {c c1 : Value} {i : Nat} {body suite suite1 : List Stmt} {b₀ b1 : Stmt} {np pos pos' np1 pos1 : Pos} {tb : WX → TS} {ts : Addr → TS}
theorem ps_try_held2 (hs : X.stack = X.env :: X.outer) (hf : X.env.frame = some X.env.locals) (hN : X.N.Nodup) (hi : X.N[i]? = some n) (hln : X.env.kindOf n = some .local) (hc1 : Names X x1 c1) (hc : Names X x c) (hex : X.ex = [])
    (hb : ∀ (W : WX) (pn : List (Addr × Obj)) (xe : Value → Shared → Prop), Takes (X.tr pn xe) W → PassesOwn (model X.prog X.w) X.A X.env xe → PSs (X.tr pn xe) body (tb W))
    (hsu : ∀ (a : Addr) (pn : List (Addr × Obj)), PSs (X.suite a pn) (b₀ :: suite) (ts a)) :
    PS X (.Try body [.ExceptHandler (some (.Name x1 np1)) (some n1) (b1 :: suite1) pos1, .ExceptHandler (some (.Name x np)) (some n) (b₀ :: suite) pos'] [] [] pos) (fun D σ H => tb (wHeld2 X.K c1 c i ts D) D σ H) := by
  refine ⟨fun pins s σ H D I h => ?_⟩
  have ok := I.ok
  have hfr : X.A.frames = some (X.env :: X.outer) := by rw [ok.frames, hs]
  refine wpAny_Try_except ?_
  refine wpAny_mono ((hb (wHeld2 X.K c1 c i ts D) (X.pn ++ pins) (fun e s₁ => wpAny (model X.prog X.w) X.A (noteFrame e X.env) (fun _ s₂ => wpAny (model X.prog X.w) X.A (setFlight e Option.none) (fun _ s₃ =>
    wpAny (model X.prog X.w) X.A (handleBy e X.env [.ExceptHandler (some (.Name x1 np1)) (some n1) (b1 :: suite1) pos1, .ExceptHandler (some (.Name x np)) (some n) (b₀ :: suite) pos']) (SP X pins D) X.xe s₃) X.xe s₂) X.xe s₁) (fun u s' xx => ?_) PassesOwn.looking).run [] s σ H D (I.toTry _) h) (fun f s1 hsp => ?_) (fun e s1 he => he)
  · obtain ⟨a, B, sI, pins', σ', H', cls, d, rfl, J', nb, up, sky, na, os, ag, hb0, hb1, hyes⟩ := xx
    have J : Inv X pins σ' H' sI := J'.ofTry ok
    have sky' : Sky B (X.env :: X.outer) a (Zc cls d) X.env.locals s'.heap := by rw [← hs]; exact sky
    show wpAny _ _ (noteFrame (.ref a) X.env) _ _ _
    refine Sky.land Zc.steady hfr hf sky' fun h3 fl3 up3 => ?_
    have J3 : Inv X pins σ' H' { s' with heap := h3 } := J.landed nb fl3.1 (up.trans up3) os ag
    obtain ⟨oe3, vs3, he3, hz3, hd3⟩ := fl3.there
    have nfr : a ∉ frs X.stack := fun hm => by
      rw [hs] at hm
      obtain ⟨_, o', e', hnf⟩ := fl3.2.2.1.mem hm
      rw [he3] at e'
      cases e'
      exact hnf _ hd3
    have nsI : sI.heap.get? a = Option.none := by
      cases q : sI.heap.get? a with
      | none => rfl
      | some o =>
        have z := nb a o q nfr
        rw [fl3.2.1] at z
        cases z
    have n0 : X.s_0.heap.get? a = Option.none := by
      cases q : X.s_0.heap.get? a with
      | none => rfl
      | some o =>
        obtain ⟨o', z⟩ := J.base.there a o q (by rw [hex]; exact List.not_mem_nil)
        rw [nsI] at z
        cases z
    have nL : a ≠ X.env.locals := fun z => nfr (by
      rw [hs]
      exact List.mem_filterMap.mpr ⟨X.env, List.mem_cons_self, by rw [hf, z]⟩)
    have nC : ∀ y c, X.env.cells.lookup y = some c → c ≠ a := fun y c e z => by
      obtain ⟨v, o, ho, _⟩ := J.cell y c e
      rw [z, nsI] at ho
      cases ho
    have nP : ∀ p ∈ X.pn ++ pins, p.1 ≠ a := fun p hp z => by
      have q := (J.pin p hp).1
      rw [z, nsI] at q
      cases q
    have S3 := suite0 J3 a
    refine wpAny_handleBy_cons (codeAny_handlers_test ?_) (by intro q; cases q)
    have LT : PySem.W.Looks (model X.prog X.w) h3 (typeOf (.ref a)) cls := fun A Q E s k q => wpAny_typeOf_ref (k _ _ he3) (by rw [hz3.1]; exact q)
    have LM0 := PySem.W.exm_one (M := model X.prog X.w) (J3.kIn) LT hb0
    have test1 : ∀ {Q : Value → Shared → Prop} {E : Value → Shared → Prop}, Q c1 { s' with heap := h3 } → wpAny (model X.prog X.w) (X.A.mark (some (.ref a))) (eval (.Name x1 np1) X.env) Q E { s' with heap := h3 } := fun {Q E} q => by
      obtain ⟨hg, hdbg, hm | ⟨hm, hv, hnn⟩⟩ := hc1
      · exact ld_glob (X := X.suite a (X.pn ++ pins)) S3 hg hm q hdbg
      · exact ld_blt (X := X.suite a (X.pn ++ pins)) S3 hg hm hv q hnn hdbg
    refine test1 (LM0.here ?_)
    show wpAny _ X.A (handleBy (.ref a) X.env [.ExceptHandler (some (.Name x np)) (some n) (b₀ :: suite) pos']) _ _ _
    refine wpAny_handleBy_cons (codeAny_handlers_test ?_) (by intro q; cases q)
    have LM := PySem.W.exm_one (M := model X.prog X.w) (J3.kIn) LT hb1
    have test : ∀ {Q : Value → Shared → Prop} {E : Value → Shared → Prop}, Q c { s' with heap := h3 } → wpAny (model X.prog X.w) (X.A.mark (some (.ref a))) (eval (.Name x np) X.env) Q E { s' with heap := h3 } := fun {Q E} q => by
      obtain ⟨hg, hdbg, hm | ⟨hm, hv, hnn⟩⟩ := hc
      · exact ld_glob (X := X.suite a (X.pn ++ pins)) S3 hg hm q hdbg
      · exact ld_blt (X := X.suite a (X.pn ++ pins)) S3 hg hm hv q hnn hdbg
    refine test (LM.here ?_)
    refine codeAny_handlers_suite_as ?_
    refine HandSPX.lands_againZ fl3 fun h4 fl4 up4 => ?_
    have J4 : Inv X pins σ' H' { s' with heap := h4 } := J.landed nb fl4.1 ((up.trans up3).trans up4) os ag
    obtain ⟨oe4, vs4, he4, hz4, hd4⟩ := fl4.there
    have T4 := track (o := ExH a cls d) J4 na n0 nL nC nP (exH_ok he4 hz4 hd4)
    have S4 := suite0 T4 a
    refine store_ok (X := X.suite a (X.pn ++ pins)) (v := .ref a) S4 hN hi (.inl hln) rfl (fun s5 S5 => ?_) (.inr hln)
    refine wpAny_mono ((hsu a (X.pn ++ pins)).run [] s5 _ _ _ S5 (hyes a na)) (fun f s6 hsp => ?_) (fun _ _ z => False.elim z)
    have end_ : ∀ {σ6 : L2.St} {H6 : Hp} {Q : Shared → Prop}, Inv (X.suite a (X.pn ++ pins)) [] σ6 H6 s6 → (∀ s7, Inv X pins (σ6.set i Option.none) H6 s7 → Q s7) →
        wpAny (model X.prog X.w) X.A (do bindName X.env n .none; unbindBehindTheSuite X.env n pos') (fun _ s7 => Q s7) X.xe s6 := fun {σ6 H6 Q} S6 hq => gone_ok (unsuite0 S6 ok) hN hi hln hq
    cases f with
    | next =>
      obtain ⟨σ6, H6, S6, q6⟩ := hsp
      exact end_ S6 fun s7 J7 => ⟨_, _, J7, q6⟩
    | brk =>
      obtain ⟨σ6, H6, S6, q6⟩ := hsp
      exact end_ S6 fun s7 J7 => ⟨_, _, J7, q6⟩
    | cont =>
      obtain ⟨σ6, H6, S6, q6⟩ := hsp
      exact end_ S6 fun s7 J7 => ⟨_, _, J7, q6⟩
    | ret u =>
      obtain ⟨v6, σ6, H6, S6, r6, q6⟩ := hsp
      exact end_ S6 fun s7 J7 => ⟨_, _, _, J7, r6, q6⟩
  · cases f with
    | next =>
      obtain ⟨σ', H', J', q⟩ := hsp
      exact wpAny_execs_nil ⟨σ', H', J'.ofTry ok, q⟩
    | brk =>
      obtain ⟨σ', H', J', q⟩ := hsp
      exact ⟨σ', H', J'.ofTry ok, q⟩
    | cont =>
      obtain ⟨σ', H', J', q⟩ := hsp
      exact ⟨σ', H', J'.ofTry ok, q⟩
    | ret u =>
      obtain ⟨v, σ', H', J', r, q⟩ := hsp
      exact ⟨v, σ', H', J'.ofTry ok, r, q⟩
end
end Cm

set_option linter.all false
/-! defs that raise, called by name; the first wrong name of a tree -/
namespace Cm
open PySem L2 PySem.Spec PyProof.Rows
structure ClX (P : Program) (w : World) (K : PySem.W.Frag) (mg : Str → Option Value) (base : Heap) (k : Nat) (x : Str) (sp : Sp) : Prop where
  ex : ∃ (f : Addr) (fd : FuncData) (ps : List Str), FnOk P w K mg base (L2.CX P w) k f fd ps sp ∧ mg x = some (.ref f) ∧ PySem.W.keepIn K (.ref f) = true ∧ Binds K fd ps []
section
variable {P : Program} {w : World} {K : PySem.W.Frag} {mg : Str → Option Value} {base : Heap}
theorem clX_of {x : Str} {st : Stmt} {N ps : List Str} {k : Nat} {sp : Sp} (T : At K mg x st ps) (S : FnScope N ps (defScope st))
    (len : ∀ vs H Q E, sp vs H Q E → vs.length = ps.length)
    (hb : ∀ (f : Addr) (cdv : Value) (A : Around) (outer : List Env) (s : Shared) (H : Hp) (vs : List V) (Q : VK) (E : XK),
      Room k (A.deeper (envOfC x (defScope st) s.heap.objs.size f cdv)) → sp vs H Q E →
      ∃ t, PSs (cxOf (L2.CX P w) P w K mg base N x (defScope st) f cdv A outer s H E) (defBody st) t ∧ t { nx := fun _ H' => Q .non H', rt := Q } (start N vs) H) :
    ClX P w K mg base (k + 1) x sp := by
  obtain ⟨f, fd, F, hm, b⟩ := T.ex
  exact ⟨f, fd, ps, F.okX S len (hb f), hm, F.kp, b⟩
end
section
variable {X : Cx} {j k : Nat} {x : Str} {sp : Sp} {e : Expr} {es : List Expr} {t : TA} {p pos : Pos}
/-- a call that lets nothing out -/
theorem pe_cL (c : ClX X.prog X.w X.K X.mg X.base k x sp) (hr : Room j X.A) (hk : k ≤ j) (hg : Gl X x) (ha : PA X (e :: es) t)
    (hdb : (x == ("__debug__" : Str)) = false := by decide) (he : starEach (e :: es) X.env = (false, eval e X.env) :: starEach es X.env := by rfl)
    (hpl : (backTo pos (starEach es X.env)).any (·.1) = false := by rfl) : PE X (.Call (.Name x p) (e :: es) [] pos) (tCall sp [] E0 t) := by
  obtain ⟨f, fd, ps, F, hm, kp, b⟩ := c.ex
  exact pe_call F (hr.mono hk) hg hm kp b .nil passL ha hdb he hpl
/-- a call in a try -/
theorem pe_cS {W : WX} (c : ClX X.prog X.w X.K X.mg X.base k x sp) (hr : Room j X.A) (hk : k ≤ j) (hg : Gl X x) (tk : Takes X W) (ha : PA X (e :: es) t)
    (hdb : (x == ("__debug__" : Str)) = false := by decide) (he : starEach (e :: es) X.env = (false, eval e X.env) :: starEach es X.env := by rfl)
    (hpl : (backTo pos (starEach es X.env)).any (·.1) = false := by rfl) : PE X (.Call (.Name x p) (e :: es) [] pos) (tCallS sp (WE W) t) := by
  obtain ⟨f, fd, ps, F, hm, kp, b⟩ := c.ex
  exact pe_callS F (hr.mono hk) hg hm kp b (fun σ => passAt tk σ) ha hdb he hpl
end

/-- the first text that stands a second time -/
def twice (pre : List Str) : List Str → Option Str
  | [] => none
  | x :: r => if x ∈ pre then some x else twice (pre ++ [x]) r
theorem twice_sok : ∀ (xs pre : List Str) {x : Str}, twice pre xs = some x → x ∈ xs
  | [], _, _, h => by cases h
  | y :: r, pre, x, h => by
    have h' : (if y ∈ pre then some y else twice (pre ++ [y]) r) = some x := h
    split at h'
    · cases h'
      exact List.mem_cons_self
    · exact List.mem_cons_of_mem _ (twice_sok r _ h')
mutual
/-- the first wrong name, in reading order -/
def Tr.wrong (known : List Str) : Tr → Option (Str × Str)
  | .mk h ps => match (own false h).filter (fun x => !decide (x ∈ known)) with
    | x :: _ => some ("unknown", x)
    | [] => match twice [] (held h) with
      | some x => some ("twice", x)
      | none => Tr.wrongs known h ps.length 0 ps
def Tr.wrongs (known : List Str) (h : Hd) (n : Nat) : Nat → List Tr → Option (Str × Str)
  | _, [] => none
  | i, t :: ts => match t.wrong (known ++ under h n i) with
    | some e => some e
    | none => Tr.wrongs known h n (i + 1) ts
end
mutual
theorem wrong_sok : ∀ (t : Tr) (known : List Str) (e : Str × Str), t.ok → t.wrong known = some e → sok e.1 ∧ sok e.2
  | .mk h ps, known, e, o, w => by
    have o' : hok h ps.length ∧ ps.length ≤ 11 ∧ Tr.oks ps := o
    have w' : (match (own false h).filter (fun x => !decide (x ∈ known)) with
      | x :: _ => some ("unknown", x)
      | [] => match twice [] (held h) with
        | some x => some ("twice", x)
        | none => Tr.wrongs known h ps.length 0 ps) = some e := w
    split at w'
    · rename_i x r q
      cases w'
      refine ⟨show sok "unknown" by decide +kernel, ?_⟩
      have m : x ∈ (own false h).filter (fun x => !decide (x ∈ known)) := by rw [q]; exact List.mem_cons_self
      have m2 : x ∈ (Tr.mk h ps).free false := List.mem_append_left _ (List.mem_filter.mp m).1
      exact free_sok false (.mk h ps) o x m2
    · split at w'
      · rename_i x q
        cases w'
        exact ⟨show sok "twice" by decide +kernel, held_sok o'.1 x (twice_sok _ _ q)⟩
      · exact wrongs_sok 0 ps known h ps.length e o'.2.2 w'
theorem wrongs_sok : ∀ (i : Nat) (ts : List Tr) (known : List Str) (h : Hd) (n : Nat) (e : Str × Str), Tr.oks ts → Tr.wrongs known h n i ts = some e → sok e.1 ∧ sok e.2
  | _, [], _, _, _, _, _, w => by cases w
  | i, t :: ts, known, h, n, e, o, w => by
    have w' : (match t.wrong (known ++ under h n i) with
      | some e => some e
      | none => Tr.wrongs known h n (i + 1) ts) = some e := w
    split at w'
    · rename_i e' q
      cases w'
      exact wrong_sok t _ _ o.1 q
    · exact wrongs_sok (i + 1) ts known h n e o.2 w'
end
end Cm

namespace K02
open PySem L2 Cm
/-- the fields of a BadName -/
abbrev BadXd (e : Str × Str) : HO := .xd [(("name" : Str), .str e.2), (("what" : Str), .str e.1)]
def spTwice (K : PySem.W.Frag) (C : Addr) : Sp := fun vs H Q E => ∃ (a : Addr) (xs : List Str), vs = [.ref a] ∧ SqT K H a (xs.map V.str) ∧ xs.length ≤ 100 ∧
  (twice [] xs = none → ∀ H', Same H H' → Q .non H') ∧ ∀ x, twice [] xs = some x → ∀ (d : Addr) (H' : Hp), Same H H' → H' d = some (BadXd ("twice", x)) → E (.ref C) (some d) H'
def spWithin (K : PySem.W.Frag) (C : Addr) (n : Nat) : Sp := fun vs H Q E => ∃ (v : V) (b : Addr) (t : Tr) (known : List Str), vs = [v, .ref b] ∧ Dp K H v t.enc ∧ t.ok ∧ t.dep ≤ n ∧ SqT K H b (known.map V.str) ∧ known.length + 100 * n ≤ 10000 ∧
  (t.wrong known = none → ∀ H', Same H H' → Q .non H') ∧ ∀ e, t.wrong known = some e → ∀ (d : Addr) (H' : Hp), Same H H' → H' d = some (BadXd e) → E (.ref C) (some d) H'
def spCheck (K : PySem.W.Frag) (C : Addr) : Sp := fun vs H Q E => ∃ (v : V) (t : Tr), vs = [v] ∧ Dp K H v t.enc ∧ t.ok ∧ t.dep ≤ 12 ∧
  (t.wrong [] = none → ∀ H', Same H H' → Q .non H') ∧ ∀ e, t.wrong [] = some e → ∀ (d : Addr) (H' : Hp), Same H H' → H' d = some (BadXd e) → E (.ref C) (some d) H'
theorem drop_next {α : Type} {xs : List α} {i : Nat} {c : α} (h : xs[i]? = some c) : xs.drop i = c :: xs.drop (i + 1) := by
  obtain ⟨hi, e⟩ := List.getElem?_eq_some_iff.mp h
  rw [List.drop_eq_getElem_cons hi, e]
theorem held_nil {h : Hd} (o : hok h 0) : held h = [] := by
  cases h with
  | fn xs => exact absurd o.1 (by decide)
  | one w x => exact absurd o.1 (by decide)
  | bind w xs => exact absurd o.1 (by omega)
  | _ => rfl
section
variable {P : Program} {w : World} {K : PySem.W.Frag} {mg : Str → Option Value} {base : Heap} {C : Addr}
abbrev s_p_check_twice : Stmt := top 9
abbrev N_p_check_twice : List Str := ["names", "index", "name"]
theorem sc_p_check_twice : FnScope N_p_check_twice ["names"] (defScope s_p_check_twice) := ⟨rfl, rfl, rfl, by decide +kernel, rfl, by decide +kernel, by decide +kernel⟩
theorem ok_check_twice (T : Txt mg) (M : Mk P w K mg base C "BadName" ["what", "name"]) (D : At K mg "_check_twice" s_p_check_twice ["names"]) : ClX P w K mg base 3 "_check_twice" (spTwice K C) := by
  refine clX_of (k := 2) D sc_p_check_twice (fun vs H Q E h => ?_) fun f cdv A outer s H vs Q E hr h => ?_
  · obtain ⟨a, xs, rfl, _⟩ := h
    rfl
  · obtain ⟨a, xs, rfl, hS, hl, kQ, kE⟩ := h
    refine ⟨_, (pss_one (ps_for (passes_of rfl) rfl (pi_enumT (by rfl) T.enumerate (pa_cons (pv 0) pa_nil)) (pg_tup (by rfl) (pgs_cons (pg_name (i := 1) sc_p_check_twice.nd rfl (Or.inl rfl)) (pgs_cons (pg_name (i := 2) sc_p_check_twice.nd rfl (Or.inl rfl)) pgs_nil)))
        (pss_one (ps_if (pt_cmpR op_in_seq (pv 2) (pe_slice sl_tupA (pv 0) po_none (po_some (pv 1))) (by rfl))
          (pss_one (ps_raiseMk rfl M hr (by decide) (by decide) (takes_of rfl rfl rfl rfl) (by rfl) (by exact (pa_cons pe_str (pa_cons (pv 2) pa_nil)))))
          pss_nil)))), ?_⟩
    refine ⟨_, rfl, a, _, rfl, hS, ?_⟩
    refine for_it (walk_enumT (xs := xs.map V.str)) (fun i σ H' => ∃ (v1 v2 : Option V), σ = [some (.ref a), v1, v2] ∧ Same H H' ∧ twice [] xs = twice (xs.take i) (xs.drop i)) ⟨none, none, rfl, Same.refl H, rfl⟩ (fun i σ H' _ z => ?_) ?_ ?_
    · obtain ⟨_, _, _, z, _⟩ := z
      exact sqt_same z hS
    · rintro i v σ H1 H2 hi ⟨v1, v2, rfl, s1, et⟩ ⟨T1, x1, x2, rfl, hT, rfl, e1, e2⟩
      cases e1
      obtain ⟨x, ex, rfl⟩ := map_at e2
      rw [List.length_map] at hi
      have s2 := s1.trans (same_new (o := .tup [.int (i : Nat), .str x]) hT)
      refine ⟨T1, _, rfl, .inl (.inl upd_same), rfl, _, _, rfl, _, _, rfl, rfl, ?_⟩
      generalize upd H1 T1 (.tup [.int (i : Nat), .str x]) = H3 at *
      refine ⟨_, rfl, _, rfl, _, rfl, _, rfl, ?_⟩
      refine sl_to (k := i) (sqt_same s2 hS) (by rw [List.length_map]; omega) fun t H4 s4 ht4 => ?_
      rw [← List.map_take] at ht4
      refine ⟨t, _, rfl, .inr ht4, rfl, flat_strV _, _, rfl, ?_⟩
      show if inV (.str x) ((xs.take i).map V.str) = true then _ else _
      rw [in_words]
      rw [drop_next ex] at et
      have et' : twice [] xs = if x ∈ xs.take i then some x else twice (xs.take i ++ [x]) (xs.drop (i + 1)) := et
      by_cases q : x ∈ xs.take i
      · rw [decide_eq_true q]
        rw [if_pos q] at et'
        exact iteT ⟨_, rfl, rfl, fun d H6 s6 hd6 => kE x et' d H6 ((s2.trans s4).trans s6) hd6⟩
      · rw [decide_eq_false q]
        rw [if_neg q, ← (take_next ex).1] at et'
        exact iteF ⟨_, _, rfl, s2.trans s4, et'⟩
    · rintro σ H1 ⟨v1, v2, rfl, s1, et⟩
      rw [List.length_map, List.drop_of_length_le (Nat.le_refl _)] at et
      exact kQ et H1 s1
abbrev s_p_check_within : Stmt := top 8
abbrev N_p_check_within : List Str := ["tree", "known", "bound", "part", "names"]
theorem sc_p_check_within : FnScope N_p_check_within ["tree", "known"] (defScope s_p_check_within) := ⟨rfl, rfl, rfl, by decide +kernel, rfl, by decide +kernel, by decide +kernel⟩
theorem ok_check_within (T : Txt mg) (M : Mk P w K mg base C "BadName" ["what", "name"]) (c_p_parts_of : Cl P w K mg base 1 "parts_of" (spParts K)) (c_p_names_bound : Cl P w K mg base 2 "names_bound" (spBound K)) (c_p_check_twice : ClX P w K mg base 3 "_check_twice" (spTwice K C))
    (D : At K mg "_check_within" s_p_check_within ["tree", "known"]) : ∀ n, ClX P w K mg base (n + 4) "_check_within" (spWithin K C n) := by
  intro n
  induction n with
  | zero =>
    refine clX_of (k := 3) D sc_p_check_within (fun vs H Q E h => ?_) fun f cdv A outer s H vs Q E hr h => ?_
    · obtain ⟨v, b, t, known, rfl, _⟩ := h
      rfl
    · obtain ⟨v, b, t, known, _, _, _, z, _⟩ := h
      cases t with
      | mk hd ps => exact absurd z (by show ¬ (Tr.deps ps + 1 ≤ 0); omega)
  | succ n ih =>
    refine clX_of (k := n + 4) D sc_p_check_within (fun vs H Q E h => ?_) fun f cdv A outer s H vs Q E hr h => ?_
    · obtain ⟨v, b, t, known, rfl, _⟩ := h
      rfl
    · obtain ⟨v, b, t, known, rfl, hd, o, hdep, hb, hbl, kQ, kE⟩ := h
      cases t with
      | mk h ps =>
      obtain ⟨o1, o2, o3⟩ := ok_mk' o
      obtain ⟨a, its, rfl, hs, hx⟩ := view hd
      have fle : flatDs (Tr.encL ps) = true := flat_encL ps
      have ew : (Tr.mk h ps).wrong known = (match (own false h).filter (fun x => !decide (x ∈ known)) with
        | x :: _ => some ("unknown", x)
        | [] => match twice [] (held h) with
          | some x => some ("twice", x)
          | none => Tr.wrongs known h ps.length 0 ps) := rfl
      refine ⟨_, (pss_mid (ps_if (PW.pt (pw_and (pt_inW (pe_ix ix_tup (pv 0) pe_int (fun _ _ => rfl)) (.cons (.cons .nil)) (show 2 ≤ sizeLine by decide) (by rfl)) (pw_and1 (pt_cmpR op_notIn_seq (pe_ix ix_tup (pv 0) pe_int (fun _ _ => rfl)) (pv 1) (by rfl)))))
        (pss_one (ps_raiseMk rfl M hr (by omega) (by decide) (takes_of rfl rfl rfl rfl) (by rfl) (by exact (pa_cons pe_str (pa_cons (pe_ix ix_tup (pv 0) pe_int (fun _ _ => rfl)) pa_nil)))))
        pss_nil)
      (pss_cons (ps_set (i := 2) sc_p_check_within.nd rfl (Or.inl rfl) (pe_c c_p_names_bound hr (by omega) (by rfl) (pa_cons (pv 0) pa_nil)))
      (pss_mid (ps_if (pt_truth (pv 2) (by intro _; rfl))
        (pss_one (ps_expr (by exact (pe_cS c_p_check_twice hr (by omega) (by rfl) (takes_of rfl rfl rfl rfl) (pa_cons (pe_ix ix_tup (pv 2) (pe_un un_neg pe_int) (fun _ _ => rfl)) pa_nil)))))
        pss_nil)
      (pss_one (ps_for (passes_of rfl) rfl (RZ.pi_zipA (by rfl) T.zip (pa_cons (pe_c c_p_parts_of hr (by omega) (by rfl) (pa_cons (pv 0) pa_nil)) (pa_cons (pv 2) pa_nil))) (pg_tup (by rfl) (pgs_cons (pg_name (i := 3) sc_p_check_within.nd rfl (Or.inl rfl)) (pgs_cons (pg_name (i := 4) sc_p_check_within.nd rfl (Or.inl rfl)) pgs_nil)))
        (pss_one (ps_expr (by exact (pe_cS ih hr (by omega) (by rfl) (takes_of rfl rfl rfl rfl) (pa_cons (pv 3) (pa_cons (pe_op op_catA (pv 1) (pv 4)) pa_nil))))))))))), ?_⟩
      refine ⟨fun σ' H' => σ' = [some (.ref a), some (.ref b), none, none, none] ∧ Same H H' ∧ (own false h).filter (fun x => !decide (x ∈ known)) = [], ?_, ?_⟩
      · refine ⟨_, rfl, a, its, _, _, rfl, rfl, hs, hx.head, rfl, fun H1 s1 => ?_⟩
        show if inV (.str (wd h)) ((wordsG false).map V.str) = true then _ else _
        rw [in_G o1]
        cases eo : !(own false h).isEmpty with
        | false =>
          have e0 : own false h = [] := by
            cases q : own false h with
            | nil => rfl
            | cons x r => rw [q] at eo; cases eo
          exact iteF (iteF ⟨rfl, s1, by rw [e0]; rfl⟩)
        | true =>
          obtain ⟨y, ey, e1⟩ := own_at hx eo
          refine iteT ⟨_, rfl, a, its, _, _, rfl, rfl, sqt_same s1 hs, e1, _, rfl, b, _, rfl, .inr (sqt_same s1 hb), rfl, flat_strV _, _, rfl, ?_⟩
          show if (!inV (.str y) (known.map V.str)) = true then _ else _
          rw [in_words]
          have ef : (own false h).filter (fun x => !decide (x ∈ known)) = if y ∈ known then [] else [y] := by
            rw [ey]
            by_cases q : y ∈ known <;> simp [q]
          by_cases q : y ∈ known
          · rw [decide_eq_true q]
            rw [if_pos q] at ef
            exact iteF ⟨rfl, s1, ef⟩
          · rw [decide_eq_false q]
            rw [if_neg q] at ef
            rw [ef] at ew
            exact iteT ⟨_, rfl, a, its, _, _, rfl, rfl, sqt_same s1 hs, e1, rfl, fun d H6 s6 hd6 => kE _ ew d H6 (s1.trans s6) hd6⟩
      · rintro σ' H0 ⟨rfl, s0, ef⟩
        rw [ef] at ew
        refine ⟨_, rfl, .ref a, h, Tr.encL ps, rfl, dp_same s0 _ _ hd, by rw [encL_len]; exact o1, fle, by rw [encL_len]; omega, fun t2 us2 H2 s2 ht2 hus2 => ?_⟩
        rw [encL_len] at hus2
        have hul2 := DpAll.len hus2
        have hul3 : us2.length = ps.length := by
          rw [hul2]
          unfold bnds
          rw [List.length_map, List.length_range]
        have S2 := s0.trans s2
        refine ⟨fun σ' H' => σ' = [some (.ref a), some (.ref b), some (.ref t2), none, none] ∧ Same H2 H' ∧ twice [] (held h) = none, ?_, ?_⟩
        · refine ⟨_, rfl, _, .inr (.inl ⟨us2, ht2, rfl⟩), ?_⟩
          cases eu : !us2.isEmpty with
          | false =>
            have e0 : ps.length = 0 := by
              cases us2 with
              | nil => exact hul3.symm
              | cons x r => cases eu
            rw [e0] at o1
            exact iteF ⟨rfl, Same.refl _, by rw [held_nil o1]; rfl⟩
          | true =>
            obtain ⟨m, em⟩ : ∃ m, ps.length = m + 1 := by
              cases us2 with
              | nil => cases eu
              | cons x r => exact ⟨r.length, hul3.symm⟩
            obtain ⟨ul, eul, hul⟩ : ∃ ul, us2[m]? = some ul ∧ Dp K H2 ul (encs (under h ps.length m)) := DpAll.at hus2 (under_at (by omega))
            have eh : under h ps.length m = held h := by
              unfold under
              rw [if_neg (fun z => by omega)]
            rw [eh] at hul
            obtain ⟨q, rfl, hq⟩ := encs_inv hul
            have elast : us2 = us2.take m ++ [.ref q] := by
              rw [← (take_next eul).1, List.take_of_length_le (by omega)]
            have hhl : (held h).length ≤ 100 := by
              rw [← eh]
              exact under_len o1 o2 _ _
            refine iteT ⟨_, rfl, _, rfl, t2, _, _, _, rfl, rfl, ht2, by rw [elast]; exact atI_last _ _, q, held h, rfl, hq, hhl, fun e H6 s6 => ⟨rfl, s6, e⟩, fun x e d H6 s6 hd6 => ?_⟩
            have ew' : (Tr.mk h ps).wrong known = some (("twice" : Str), x) := by rw [ew, e]
            exact kE _ ew' d H6 (S2.trans s6) hd6
        · rintro σ' H3 ⟨rfl, s3, etw⟩
          have S3 := S2.trans s3
          have ew' : (Tr.mk h ps).wrong known = Tr.wrongs known h ps.length 0 ps := by rw [ew, etw]
          refine ⟨_, rfl, .ref a, h, Tr.encL ps, rfl, dp_same S3 _ _ hd, by rw [encL_len]; exact o1, fle, by rw [encL_len]; omega, fun t us H4 s4 ht hus => ?_⟩
          have hul := DpAll.len hus
          rw [encL_len] at hul
          have s34 := s3.trans s4
          have S4 := S3.trans s4
          refine ⟨_, rfl, t, t2, us, us2, rfl, .inr ⟨ht, sqt_same s34 ht2, ?_⟩⟩
          have hus2' := dps_same s34 _ _ hus2
          have ht2' := sqt_same s34 ht2
          refine for_it (walk_zipT (xs := us) (ys := us2) (n := ps.length) (by omega)) (fun i σ H' => ∃ (v3 v4 : Option V), σ = [some (.ref a), some (.ref b), some (.ref t2), v3, v4] ∧ Same H4 H' ∧ (Tr.mk h ps).wrong known = Tr.wrongs known h ps.length i (ps.drop i))
            ⟨none, none, rfl, Same.refl _, ew'⟩ (fun i σ H' _ z => ?_) ?_ ?_
          · obtain ⟨_, _, _, z, _⟩ := z
            exact ⟨sqt_same z ht, sqt_same z ht2'⟩
          · rintro i v σ H5 H6 hi ⟨v3, v4, rfl, s5, ei⟩ ⟨T1, x1, x2, rfl, hT, rfl, e1, e2⟩
            have s6 := s5.trans (same_new (o := .tup [x1, x2]) hT)
            obtain ⟨d1, g1, g2⟩ := DpAll.atV hus e1
            obtain ⟨c, ec, rfl⟩ := encL_at' g1
            obtain ⟨d2, g3, g4⟩ := DpAll.atV hus2' e2
            rw [under_at hi] at g3
            cases g3
            refine ⟨T1, _, rfl, .inl (.inl upd_same), rfl, _, _, rfl, _, _, rfl, rfl, ?_⟩
            generalize upd H5 T1 (.tup [x1, x2]) = H6 at *
            obtain ⟨q2, rfl, hq2⟩ := encs_inv (dp_same s6 _ _ g4)
            have hcm : c ∈ ps := List.mem_of_getElem? ec
            have hul5 := under_len o1 o2 ps.length i
            rw [drop_next ec] at ei
            have ei' : (Tr.mk h ps).wrong known = (match c.wrong (known ++ under h ps.length i) with
              | some e => some e
              | none => Tr.wrongs known h ps.length (i + 1) (ps.drop (i + 1))) := ei
            refine ⟨_, rfl, _, rfl, _, rfl, ?_⟩
            refine cat_any (sqt_same (S4.trans s6) hb) hq2 (by rw [List.length_map, List.length_map, sizeLine_eq]; omega) fun t5 H7 s7 ht5 => ?_
            rw [← List.map_append] at ht5
            refine ⟨x1, t5, c, known ++ under h ps.length i, rfl, dp_same (s6.trans s7) _ _ g2, o3 c hcm, dep_mk.mp hdep c hcm, ht5, by rw [List.length_append]; omega, fun e H8 s8 => ?_, fun e we d H8 s8 hd8 => ?_⟩
            · rw [e] at ei'
              exact ⟨_, _, rfl, (s6.trans s7).trans s8, ei'⟩
            · rw [we] at ei'
              exact kE e ei' d H8 (S4.trans ((s6.trans s7).trans s8)) hd8
          · rintro σ H5 ⟨v3, v4, rfl, s5, ei⟩
            rw [List.drop_of_length_le (Nat.le_refl _)] at ei
            exact kQ ei H5 (S4.trans s5)
abbrev s_p_check_names : Stmt := top 7
abbrev N_p_check_names : List Str := ["tree"]
theorem sc_p_check_names : FnScope N_p_check_names ["tree"] (defScope s_p_check_names) := ⟨rfl, rfl, rfl, by decide +kernel, rfl, by decide +kernel, by decide +kernel⟩
theorem ok_check_names (c_p_check_within : ClX P w K mg base 16 "_check_within" (spWithin K C 12)) (D : At K mg "check_names" s_p_check_names ["tree"]) : ClX P w K mg base 17 "check_names" (spCheck K C) := by
  refine clX_of (k := 16) D sc_p_check_names (fun vs H Q E h => ?_) fun f cdv A outer s H vs Q E hr h => ?_
  · obtain ⟨v, t, rfl, _⟩ := h
    rfl
  · obtain ⟨v, t, rfl, hd, o, hdep, kQ, kE⟩ := h
    refine ⟨_, (pss_one (ps_expr (by exact (pe_cS c_p_check_within hr (by decide) (by rfl) (takes_of rfl rfl rfl rfl) (pa_cons (pv 0) (pa_cons (pe_tup pa_nil) pa_nil)))))), ?_⟩
    refine ⟨_, rfl, by show 0 ≤ sizeLine; decide, fun b hb => ?_⟩
    have s1 := same_new (o := .tup []) hb
    exact ⟨v, b, t, [], rfl, dp_same s1 _ _ hd, o, hdep, .inl (.inl upd_same), by decide, fun e H' s' => kQ e H' (s1.trans s'), fun e we d H' s' hd' => kE e we d H' (s1.trans s') hd'⟩
end
end K02

namespace K02
open PySem L2 Cm
def spBinds (K : PySem.W.Frag) : Sp := fun vs H Q _ => ∃ (v : V) (h : Hd) (ds : List PyData), vs = [v] ∧ Dp K H v (encH h ds) ∧ hok h ds.length ∧ ds.length ≤ 100 ∧
  ∀ (l : Addr) (H' : Hp), Same H H' → H l = none → H' l = some (.lst ((held h).map V.str)) → Q (.ref l) H'
def spFree (K : PySem.W.Frag) (n : Nat) : Sp := fun vs H Q _ => ∃ (v : V) (t : Tr) (sa : Bool), vs = [v, .bl sa] ∧ Dp K H v t.enc ∧ t.ok ∧ t.dep ≤ n ∧ t.size ≤ 10000000 ∧
  ∀ (l : Addr) (H' : Hp), Same H H' → H l = none → H' l = some (.lst ((t.free sa).map V.str)) → Q (.ref l) H'
def spUnlike (K : PySem.W.Frag) : Sp := fun vs H Q _ => ∃ (a : Addr) (xs : List Str), vs = [.ref a] ∧ SqL K H a (xs.map V.str) ∧ xs.length ≤ 10000000 ∧ (∀ x ∈ xs, sok x) ∧
  ∀ (r : Addr) (ys : List Str) (H' : Hp), Same H H' → SqT K H' r (ys.map V.str) → Asc ys → (∀ x, x ∈ ys ↔ x ∈ xs) → Q (.ref r) H'
theorem range_filter {α β : Type} (f : α → β) (g : α → Bool) (l : List α) : (List.range l.length).filterMap (fun i => (l[i]?).bind fun x => if g x = true then some (f x) else none) = (l.filter g).map f := by
  induction l with
  | nil => rfl
  | cons a l ih =>
    rw [List.length_cons, List.range_succ_eq_map, List.filterMap_cons]
    simp only [List.getElem?_cons_zero, Option.bind_some, List.filterMap_map]
    have e : List.filterMap ((fun i => ((a :: l)[i]?).bind fun x => if g x = true then some (f x) else none) ∘ Nat.succ) (List.range l.length) = (l.filter g).map f := by
      rw [← ih]
      rfl
    rw [e]
    by_cases q : g a = true
    · rw [if_pos q, List.filter_cons_of_pos q]
      rfl
    · rw [if_neg q, List.filter_cons_of_neg q]
section
variable {P : Program} {w : World} {K : PySem.W.Frag} {mg : Str → Option Value} {base : Heap}
abbrev s_l_binds : Stmt := top 23
abbrev N_l_binds : List Str := ["_law_tree", "_law_word", "_law_pair"]
theorem sc_l_binds : FnScope N_l_binds ["_law_tree"] (defScope s_l_binds) := ⟨rfl, rfl, rfl, by decide +kernel, rfl, by decide +kernel, by decide +kernel⟩
theorem ok_l_binds (T : Txt mg) (D : At K mg "_law_binds" s_l_binds ["_law_tree"]) : Cl P w K mg base 1 "_law_binds" (spBinds K) := by
  refine cl_of D sc_l_binds (fun vs H Q E h => ?_) fun f cdv A outer s H vs Q E hr h => ?_
  · obtain ⟨v, h, ds, rfl, _⟩ := h
    rfl
  · obtain ⟨v, h, ds, rfl, hd, o, hlen, k⟩ := h
    obtain ⟨a, its, rfl, hs, hx⟩ := view hd
    refine ⟨_, (pss_cons (ps_set (i := 1) sc_l_binds.nd rfl (Or.inl rfl) (pe_ix ix_tup (pv 0) pe_int (fun _ _ => rfl)))
      (pss_cons (ps_if (pt_cmpR op_eq (pv 1) pe_str (nomark _))
        (pss_one (ps_ret (pe_callTy call_list_of (by rfl) T.list (by decide +kernel) (pa_cons (pe_ix ix_tup (pv 0) pe_int (fun _ _ => rfl)) pa_nil))))
        pss_nil)
      (pss_cons (ps_if (pt_inW (pv 1) (.cons (.cons .nil)) (show 2 ≤ sizeLine by decide) (by rfl))
        (pss_one (ps_ret (pe_lc (own := [("_law_pair", 2)]) rfl sc_l_binds.nd (pi_tup (pe_ix ix_tup (pv 0) pe_int (fun _ _ => rfl))) (blkOk_by (N := N_l_binds) (sc := defScope s_l_binds) (by decide +kernel))
      (fun _ _ _ _ _ => (pg_name (i := 2) sc_l_binds.nd rfl (Or.inl rfl)))
      (fun _ _ _ _ _ => pts_nil)
      (fun _ _ _ _ _ => (pe_ix (kx_tup (K := K)) (pv 2) pe_int (fun _ _ => rfl))))))
        pss_nil)
      (pss_one (ps_ret (pe_ifExp (pt_inW (pv 1) (.cons (.cons (.cons .nil))) (show 3 ≤ sizeLine by decide) (by rfl)) (pe_lst (pa_cons (pe_ix ix_tup (pv 0) pe_int (fun _ _ => rfl)) pa_nil)) (pe_lst pa_nil))))))), ?_⟩
    refine ⟨_, rfl, a, its, _, _, rfl, rfl, hs, hx.head, ?_⟩
    refine ⟨_, rfl, rfl, _, rfl, ?_⟩
    rw [eq_fn o]
    cases eF : isFn h with
    | true =>
      refine iteT ?_
      cases h with
      | fn xs =>
        obtain ⟨q, vs, rfl, hq, hv⟩ := hx
        refine ⟨_, rfl, a, _, _, _, rfl, rfl, hs, atI_nat (j := 1) rfl, q, _, rfl, .inr hq, fun l hl => ?_⟩
        exact k l _ (same_new hl) hl upd_same
      | _ => cases eF
    | false =>
      refine iteF ?_
      refine ⟨_, rfl, rfl, fun H1 s1 => ?_⟩
      have hs1 := sqt_same s1 hs
      have hx1 := hx.same s1
      rw [in_B o]
      cases eB : kB h with
      | true =>
        refine iteT ?_
        cases h with
        | bind w xs =>
          obtain ⟨q, rows, vs, rfl, hq, hrows, hv⟩ := hx1
          have hdl : ds.length = xs.length + 1 := o.1
          have hrl : rows.length = xs.length := by
            have := DpAll.len hrows
            rw [List.length_map, List.length_zip] at this
            omega
          refine ⟨_, rfl, a, _, _, _, rfl, rfl, hs1, atI_nat (j := 1) rfl, q, rfl, ⟨_, hq⟩, fun L hL => ?_⟩
          refine lc_data (K := K) (walk_tup (xs := rows)) (fun i => (xs[i]?).map PyData.str) hL (by omega) (fun H' s => sqt_same s hq) (fun i _ d e => ?_) ?_ ?_
          · obtain ⟨d', e', rfl⟩ := Option.map_eq_some_iff.mp e
            rfl
          · rintro i x H3 H4 hi s3 ⟨rfl, e2⟩ Q1 Q0 q1 q0
            obtain ⟨d, g1, g2⟩ := DpAll.atV hrows e2
            obtain ⟨p, ep, rfl⟩ := map_at g1
            obtain ⟨r, its3, rfl, hr3, hi3⟩ := dp_tup (dp_same s3 _ _ g2)
            cases hi3 with
            | cons h1 h2 =>
              refine ⟨rfl, _, rfl, r, _, _, _, rfl, rfl, hr3, atI_nat (j := 0) rfl, q1 _ _ (.str p.1) ?_ (Same.refl _) h1⟩
              rw [(List.getElem?_zip_eq_some.mp ep).1]
              rfl
          · intro H3 acc s3 hacc ha3
            rw [show rows.length = xs.length by omega, range_map] at ha3
            have ea := dpAll_strs_inv ha3
            subst ea
            exact k L _ (s1.trans s3) (free_of s1 hL) hacc
        | _ => cases eB
      | false =>
        refine iteF ?_
        refine ⟨_, rfl, rfl, fun H2 s2 => ?_⟩
        have S2 := s1.trans s2
        have hx2 := hx1.same s2
        rw [in_T o]
        cases eT : isTak h with
        | true =>
          refine iteT ?_
          cases h with
          | one w x =>
            obtain ⟨vs, rfl, hv⟩ := hx2
            refine ⟨_, rfl, a, _, _, _, rfl, rfl, sqt_same s2 hs1, atI_nat (j := 1) rfl, by show 1 ≤ sizeLine; decide, fun l hl => ?_⟩
            have e2 : held (.one w x) = [x] := by
              have : (!decide (w = "set")) = true := eT
              show (if w = "set" then [] else [x] : List Str) = [x]
              rw [if_neg (fun z => by rw [decide_eq_true z] at this; cases this)]
            exact k l _ (S2.trans (same_new hl)) (free_of S2 hl) (by rw [e2]; exact upd_same)
          | _ => cases eT
        | false =>
          refine iteF ⟨by show 0 ≤ sizeLine; decide, fun l hl => ?_⟩
          have eh : held h = [] := by
            cases h with
            | fn xs => cases eF
            | bind w xs => cases eB
            | one w x =>
              have : (!decide (w = "set")) = false := eT
              show (if w = "set" then [] else [x] : List Str) = []
              rw [if_pos (by
                by_cases z : w = "set"
                · exact z
                · rw [decide_eq_false z] at this
                  cases this)]
            | _ => rfl
          exact k l _ (S2.trans (same_new hl)) (free_of S2 hl) (by rw [eh]; exact upd_same)
abbrev s_l_free : Stmt := top 24
abbrev N_l_free : List Str := ["_law_tree", "_law_sets_alone", "_law_word", "_law_held", "_law_parts_here", "_law_found", "_law_at", "_law_inner", "_law_name"]
theorem sc_l_free : FnScope N_l_free ["_law_tree", "_law_sets_alone"] (defScope s_l_free) := ⟨rfl, rfl, rfl, by decide +kernel, rfl, by decide +kernel, by decide +kernel⟩
theorem ok_l_free (T : Txt mg) (c_l_parts : Cl P w K mg base 1 "_law_parts" (spPartsL K)) (c_l_binds : Cl P w K mg base 1 "_law_binds" (spBinds K)) (D : At K mg "_law_free" s_l_free ["_law_tree", "_law_sets_alone"]) : ∀ n, Cl P w K mg base (n + 2) "_law_free" (spFree K n) := by
  intro n
  induction n with
  | zero =>
    refine cl_of (k := 1) D sc_l_free (fun vs H Q E h => ?_) fun f cdv A outer s H vs Q E hr h => ?_
    · obtain ⟨v, t, sa, rfl, _⟩ := h
      rfl
    · obtain ⟨v, t, sa, _, _, _, z, _⟩ := h
      cases t with
      | mk hd ps => exact absurd z (by show ¬ (Tr.deps ps + 1 ≤ 0); omega)
  | succ n ih =>
    refine cl_of (k := n + 2) D sc_l_free (fun vs H Q E h => ?_) fun f cdv A outer s H vs Q E hr h => ?_
    · obtain ⟨v, t, sa, rfl, _⟩ := h
      rfl
    · obtain ⟨v, t, sa, rfl, hd, o, hdep, hsz, k⟩ := h
      cases t with
      | mk h ps =>
      obtain ⟨o1, o2, o3⟩ := ok_mk' o
      have hsz' : Tr.sizes ps + 1 ≤ 10000000 := hsz
      obtain ⟨a, its, rfl, hs, hx⟩ := view hd
      have fle : flatDs (Tr.encL ps) = true := flat_encL ps
      refine ⟨_, (pss_cons (ps_set (i := 2) sc_l_free.nd rfl (Or.inl rfl) (pe_ix ix_tup (pv 0) pe_int (fun _ _ => rfl)))
      (pss_cons (ps_if (pt_cmpR op_eq (pv 2) pe_str (nomark _))
        (pss_one (ps_ret (pe_ifExp (pt_val (pv 1)) (pe_lst pa_nil) (pe_lst (pa_cons (pe_ix ix_tup (pv 0) pe_int (fun _ _ => rfl)) pa_nil)))))
        pss_nil)
      (pss_cons (ps_set (i := 3) sc_l_free.nd rfl (Or.inr rfl) (pe_c c_l_binds hr (by omega) (by rfl) (pa_cons (pv 0) pa_nil)))
      (pss_cons (ps_set (i := 4) sc_l_free.nd rfl (Or.inl rfl) (pe_c c_l_parts hr (by omega) (by rfl) (pa_cons (pv 0) pa_nil)))
      (pss_mid (ps_set (i := 5) sc_l_free.nd rfl (Or.inl rfl) (pe_ifExp (pt_cmpR op_eq (pv 2) pe_str (nomark _)) (pe_lst (pa_cons (pe_ix ix_tup (pv 0) pe_int (fun _ _ => rfl)) pa_nil)) (pe_lst pa_nil)))
      (pss_cons (ps_for PassesOwn.never rfl (pi_range1 (by rfl) T.range (pa_cons (pe_callB call_len_seq (by rfl) T.len (by decide +kernel) (pa_cons (pv 4) pa_nil)) pa_nil)) (pg_name (i := 6) sc_l_free.nd rfl (Or.inl rfl))
        (pss_cons (ps_set (i := 7) sc_l_free.nd rfl (Or.inl rfl) (pe_c ih hr (by omega) (by rfl) (pa_cons (pe_ix ix_list (pv 4) (pv 6) (fun _ _ => rfl)) (pa_cons (pv 1) pa_nil))))
        (pss_one (ps_if (PW.pt (pw_and (pt_cmpR op_eq (pv 2) pe_str (nomark _)) (pw_and1 (pt_cmpR op_lt (pv 6) (pe_op op_sub (pe_callB call_len_seq (by rfl) T.len (by decide +kernel) (pa_cons (pv 4) pa_nil)) pe_int) (nomark _)))))
          (pss_one (ps_set (i := 5) sc_l_free.nd rfl (Or.inl rfl) (pe_op op_cat (pv 5) (pv 7))))
          (pss_one (ps_set (i := 5) sc_l_free.nd rfl (Or.inl rfl) (pe_op op_cat (pv 5) (pe_lc (own := [("_law_name", 8)]) rfl sc_l_free.nd (pi_list (pv 7)) (blkOk_by (N := N_l_free) (sc := defScope s_l_free) (by decide +kernel))
      (fun _ _ _ _ _ => (pg_name (i := 8) sc_l_free.nd rfl (Or.inl rfl)))
      (fun _ _ _ _ _ => (pts_one (pt_cmpR (ko_notIn (K := K)) (pv 8) (pv 3) (by rfl))))
      (fun _ _ _ _ _ => (pv 8))))))))))
      (pss_one (ps_ret (pv 5))))))))), ?_⟩
      refine ⟨_, rfl, a, its, _, _, rfl, rfl, hs, hx.head, ?_⟩
      refine ⟨_, rfl, rfl, _, rfl, ?_⟩
      rw [eq_name o1]
      cases eN : isName h with
      | true =>
        refine iteT ?_
        cases h with
        | name x =>
          obtain rfl := (show its = _ from hx)
          have e0 : ps = [] := List.length_eq_zero_iff.mp o1.1
          subst e0
          refine ⟨_, rfl, sa, rfl, ?_⟩
          cases sa with
          | true => exact iteT ⟨by show 0 ≤ sizeLine; decide, fun l hl => k l _ (same_new hl) hl upd_same⟩
          | false => exact iteF ⟨_, rfl, a, _, _, _, rfl, rfl, hs, atI_nat (j := 1) rfl, by show 1 ≤ sizeLine; decide, fun l hl => k l _ (same_new hl) hl upd_same⟩
        | _ => cases eN
      | false =>
        refine iteF ?_
        refine ⟨_, rfl, .ref a, h, Tr.encL ps, rfl, hd, by rw [encL_len]; exact o1, by rw [encL_len]; omega, fun hl H1 s1 _ hhl => ?_⟩
        refine ⟨_, rfl, .ref a, h, Tr.encL ps, rfl, dp_same s1 _ _ hd, by rw [encL_len]; exact o1, fle, by rw [encL_len]; omega, fun pl us H2 s2 _ hpl hus => ?_⟩
        have S2 := s1.trans s2
        have hhl2 := s2 _ _ hhl
        have hul := DpAll.len hus
        rw [encL_len] at hul
        refine ⟨fun σ' H' => ∃ F : Addr, σ' = [some (.ref a), some (.bl sa), some (.str (wd h)), some (.ref hl), some (.ref pl), some (.ref F), none, none, none] ∧ Same H2 H' ∧ H F = none ∧ H' F = some (.lst ((own sa h).map V.str)), ?_, ?_⟩
        · refine ⟨_, rfl, rfl, _, rfl, ?_⟩
          rw [eq_set o1]
          have eo : own sa h = own true h := by
            cases h with
            | name x => cases eN
            | _ => rfl
          have ho := in_G o1 true
          cases es : (kd h == 3 && !isTak h) with
          | true =>
            have e1 : (!(own true h).isEmpty) = true := by
              cases h with
              | one w x =>
                have hw : (true && !(!decide (w = "set"))) = true := es
                rw [Bool.true_and, Bool.not_not] at hw
                show (!(if w = "set" then [x] else [] : List Str).isEmpty) = true
                rw [if_pos (of_decide_eq_true hw)]
                rfl
              | _ => cases es
            obtain ⟨y, ey, e2⟩ := own_at (hx.same S2) e1
            refine iteT ⟨_, rfl, a, _, _, _, rfl, rfl, sqt_same S2 hs, e2, by show 1 ≤ sizeLine; decide, fun F hF => ⟨F, rfl, same_new hF, free_of S2 hF, ?_⟩⟩
            rw [eo, ey]
            exact upd_same
          | false =>
            have e1 : own true h = [] := by
              cases h with
              | one w x =>
                have hw : (true && !(!decide (w = "set"))) = false := es
                rw [Bool.true_and, Bool.not_not] at hw
                show (if w = "set" then [x] else [] : List Str) = []
                rw [if_neg (of_decide_eq_false hw)]
              | name x => rfl
              | _ => rfl
            refine iteF ⟨by show 0 ≤ sizeLine; decide, fun F hF => ⟨F, rfl, same_new hF, free_of S2 hF, ?_⟩⟩
            rw [eo, e1]
            exact upd_same
        · rintro σ' H3 ⟨F, rfl, s3, nF, hF⟩
          have S3 := S2.trans s3
          have hpl3 := s3 _ _ hpl
          have hhl3 := s3 _ _ hhl2
          have hus3 := dps_same s3 _ _ hus
          refine ⟨_, rfl, pl, _, rfl, .inl (.inl (.inl hpl3)), _, rfl, by omega, by omega, ?_⟩
          refine for_it (walk_upto (n := (us.length : Int).toNat)) (fun i σ H' => ∃ (F : Addr) (v6 v7 : Option V), σ = [some (.ref a), some (.bl sa), some (.str (wd h)), some (.ref hl), some (.ref pl), some (.ref F), v6, v7, none] ∧ Same H3 H' ∧ H F = none ∧ H' F = some (.lst ((own sa h ++ Tr.frees sa h ps.length 0 (ps.take i)).map V.str)))
            ⟨F, none, none, rfl, Same.refl _, nF, by rw [List.take_zero]; show H3 F = some (.lst ((own sa h ++ []).map V.str)); rw [List.append_nil]; exact hF⟩ (fun _ _ _ _ _ => trivial) ?_ ?_
          · rintro i x σ H4 H4' hi ⟨F, v6, v7, rfl, s4, nF, hF⟩ ⟨rfl, rfl⟩
            have hi' : i < ps.length := by omega
            have hi2 : i < us.length := by omega
            obtain ⟨d, g1, g2⟩ := DpAll.atV hus3 (List.getElem?_eq_getElem hi2)
            obtain ⟨c, ec, rfl⟩ := encL_at' g1
            have hcm : c ∈ ps := List.mem_of_getElem? ec
            obtain ⟨et, el⟩ := take_next ec
            have hst := sizes_take' ps (i + 1)
            rw [et, sizes_snoc] at hst
            have hfl := frees_len sa h ps.length 0 (ps.take i)
            have hol := own_len sa h
            have hcl := free_len sa c
            refine ⟨_, rfl, _, rfl, pl, _, _, _, rfl, rfl, .inl (.inl (s4 _ _ hpl3)), atI_nat (List.getElem?_eq_getElem hi2), _, rfl, _, c, sa, rfl, dp_same s4 _ _ g2, o3 c hcm, dep_mk.mp hdep c hcm, by omega, fun l2 H5 s5 nl2 hl2 => ?_⟩
            have S45 := s4.trans s5
            have hF5 := s5 _ _ hF
            have hpl5 := S45 _ _ hpl3
            have hhl5 := S45 _ _ hhl3
            refine ⟨_, rfl, rfl, _, rfl, ?_⟩
            rw [eq_let o1]
            by_cases q : isLet h = true ∧ i + 1 < ps.length
            · rw [q.1]
              refine iteT ⟨_, rfl, _, rfl, pl, _, rfl, .inl (.inl (.inl hpl5)), _, _, rfl, rfl, _, _, rfl, rfl, _, rfl, ?_⟩
              rw [show decide (((i : Nat) : Int) < (us.length : Int) - 1) = true from decide_eq_true (by omega)]
              refine iteT ⟨_, rfl, _, rfl, F, l2, _, _, rfl, rfl, hF5, hl2, ?_, fun F2 hF2 => ?_⟩
              · rw [List.length_map, List.length_map, List.length_append, sizeLine_eq]
                omega
              · have s6 := same_new (o := .lst ((own sa h ++ Tr.frees sa h ps.length 0 (ps.take i)).map V.str ++ (c.free sa).map V.str)) hF2
                refine ⟨F2, _, _, rfl, S45.trans s6, free_of ((S3.trans S45)) hF2, ?_⟩
                rw [upd_same, et, frees_snoc, el, Nat.zero_add]
                have eu : under h ps.length i = [] := by unfold under; rw [if_pos q]
                rw [eu, ← List.map_append, List.append_assoc]
                have ef : (c.free sa).filter (fun x => !decide (x ∈ ([] : List Str))) = c.free sa := List.filter_eq_self.mpr fun x _ => by simp
                rw [ef]
            · have eu : under h ps.length i = held h := by unfold under; rw [if_neg q]
              cases eL : isLet h
              case' false => refine iteF (iteF ?_)
              case' true =>
                refine iteT ⟨_, rfl, _, rfl, pl, _, rfl, .inl (.inl (.inl hpl5)), _, _, rfl, rfl, _, _, rfl, rfl, _, rfl, ?_⟩
                rw [show decide (((i : Nat) : Int) < (us.length : Int) - 1) = false from decide_eq_false (fun z => q ⟨eL, by omega⟩)]
                refine iteF ?_
              all_goals
                refine ⟨_, rfl, _, rfl, l2, rfl, ⟨_, .inl (.inl hl2)⟩, fun L hL => ?_⟩
                refine lc_dataW (K := K) (walk_list (xs := (c.free sa).map V.str)) (fun i => ((c.free sa)[i]?).bind fun x => if (!decide (x ∈ held h)) = true then some (.str x) else none) hL (by rw [List.length_map]; omega) (fun H' s => .inl (.inl (s _ _ hl2))) (fun i _ d e => ?_) ?_ ?_
                · obtain ⟨p, _, e'⟩ := Option.bind_eq_some_iff.mp e
                  split at e'
                  · cases e'
                    rfl
                  · cases e'
                · rintro j x H6 H7 hj s6 ⟨rfl, e2⟩ Q1 Q0 q1 q0
                  obtain ⟨y, ey, rfl⟩ := map_at e2
                  refine ⟨rfl, ?_⟩
                  refine ⟨_, rfl, _, rfl, hl, _, rfl, .inl (.inl (.inl (s6 _ _ hhl5))), rfl, flat_strV _, _, rfl, ?_⟩
                  show if (!inV (.str y) ((held h).map V.str)) = true then _ else _
                  rw [in_words]
                  by_cases z : y ∈ held h
                  · rw [decide_eq_true z]
                    exact iteF (q0 _ (by rw [ey]; show (if (!decide (y ∈ held h)) = true then _ else _) = _; rw [decide_eq_true z]; rfl) (Same.refl _))
                  · rw [decide_eq_false z]
                    exact iteT ⟨_, rfl, q1 _ _ (.str y) (by rw [ey]; show (if (!decide (y ∈ held h)) = true then _ else _) = _; rw [decide_eq_false z]; rfl) (Same.refl _) (.str y)⟩
                · intro H6 acc s6 hacc ha6
                  rw [List.length_map, range_filter] at ha6
                  have ea := dpAll_strs_inv ha6
                  subst ea
                  have hfl2 := List.length_filter_le (fun x => !decide (x ∈ held h)) (c.free sa)
                  refine ⟨F, L, _, _, rfl, rfl, s6 _ _ hF5, hacc, ?_, fun F2 hF2 => ?_⟩
                  · rw [List.length_map, List.length_map, List.length_append, sizeLine_eq]
                    omega
                  · have s7 := same_new (o := .lst ((own sa h ++ Tr.frees sa h ps.length 0 (ps.take i)).map V.str ++ ((c.free sa).filter fun x => !decide (x ∈ held h)).map V.str)) hF2
                    refine ⟨F2, _, _, rfl, (S45.trans s6).trans s7, free_of (S3.trans (S45.trans s6)) hF2, ?_⟩
                    rw [upd_same, et, frees_snoc, el, Nat.zero_add, eu, ← List.map_append, List.append_assoc]
          · rintro σ H4 ⟨F, v6, v7, rfl, s4, nF, hF⟩
            rw [show (us.length : Int).toNat = ps.length by omega, List.take_of_length_le (Nat.le_refl _)] at hF
            exact ⟨_, rfl, k F H4 (S3.trans s4) nF hF⟩
end
end K02

namespace K02
open PySem L2 Cm
/-- what is told of the first wrong name -/
def wrD : Option (Str × Str) → PyData
  | none => .none
  | some e => .tuple [.str e.1, .str e.2]
def spFirst (K : PySem.W.Frag) (n : Nat) : Sp := fun vs H Q _ => ∃ (v : V) (b : Addr) (t : Tr) (known : List Str), vs = [v, .ref b] ∧ Dp K H v t.enc ∧ t.ok ∧ t.dep ≤ n ∧ H b = some (.lst (known.map V.str)) ∧ known.length + 100 * n ≤ 10000 ∧
  ∀ (r : V) (H' : Hp), Same H H' → Dp K H' r (wrD (t.wrong known)) → Q r H'
def spTold (K : PySem.W.Frag) : Sp := fun vs H Q _ => ∃ (v : V) (t : Tr), vs = [v] ∧ Dp K H v t.enc ∧ t.ok ∧ t.dep ≤ 12 ∧ ∀ (r : V) (H' : Hp), Same H H' → Dp K H' r (wrD (t.wrong [])) → Q r H'
theorem held_len {h : Hd} {m : Nat} (o : hok h m) (l : m ≤ 11) : (held h).length ≤ 100 := by
  have e : under h 0 0 = held h := by unfold under; rw [if_neg (fun z => by omega)]
  rw [← e]
  exact under_len o l 0 0
theorem asc_last {out : List Str} {z x : Str} (h : out.getLast? = some z) : out.getLast? ≠ some x ↔ ¬ z = x := by
  rw [h]
  simp
section
variable {P : Program} {w : World} {K : PySem.W.Frag} {mg : Str → Option Value} {base : Heap} {C : Addr}
abbrev s_l_unlike : Stmt := top 25
abbrev N_l_unlike : List Str := ["_law_names", "_law_out", "_law_name"]
theorem sc_l_unlike : FnScope N_l_unlike ["_law_names"] (defScope s_l_unlike) := ⟨rfl, rfl, rfl, by decide +kernel, rfl, by decide +kernel, by decide +kernel⟩
theorem ok_l_unlike (T : Txt mg) (D : At K mg "_law_unlike" s_l_unlike ["_law_names"]) : Cl P w K mg base 1 "_law_unlike" (spUnlike K) := by
  refine cl_of D sc_l_unlike (fun vs H Q E h => ?_) fun f cdv A outer s H vs Q E hr h => ?_
  · obtain ⟨a, xs, rfl, _⟩ := h
    rfl
  · obtain ⟨a, xs, rfl, hS, hl, hso, k⟩ := h
    refine ⟨_, (pss_cons (ps_set (i := 1) sc_l_unlike.nd rfl (Or.inl rfl) (pe_lst pa_nil))
      (pss_cons (ps_for PassesOwn.never rfl (pi_list (pe_callB cr_sortedSA (by rfl) T.sorted (by decide +kernel) (pa_cons (pv 0) pa_nil))) (pg_name (i := 2) sc_l_unlike.nd rfl (Or.inl rfl))
        (pss_one (ps_if (PW.pt (pw_or (pt_cmpR (op_eqD hr.units) (pv 1) (pe_lst pa_nil) (nomark _)) (pw_or1 (pt_cmpR op_ne (pe_ix ix_list (pv 1) (pe_un un_neg pe_int) (fun _ _ => rfl)) (pv 2) (nomark _)))))
          (pss_one (ps_expr (pe_bm PySem.F.plainAttrs_list PySem.F.slot_list_append PySem.F.type_list_append mt_append (pv 1) (pa_cons (pv 2) pa_nil))))
          pss_nil)))
      (pss_one (ps_ret (pe_tupleOf (by rfl) T.tuple (pv 1)))))), ?_⟩
    refine ⟨by show 0 ≤ sizeLine; decide, fun O hO => ?_⟩
    have s1 := same_new (o := .lst []) hO
    refine ⟨_, rfl, a, xs, rfl, s1.seq hS, fun ys p hp hsy np => ⟨p, rfl, ⟨_, .inl (.inl upd_same)⟩, ?_⟩⟩
    have s2 := same_new (o := .lst (ys.map V.str)) np
    have hO2 := s2 _ _ (upd_same (H := H) (a := O) (o := .lst []))
    have npO : p ≠ O := (ne_of_none (upd_same (H := H) (a := O) (o := .lst [])) np).symm
    have S2 := s1.trans s2
    have hp2 : (upd (upd H O (.lst [])) p (.lst (ys.map V.str))) p = some (.lst (ys.map V.str)) := upd_same
    have hles := sorted_le hsy
    have hyl : ys.length = xs.length := hp.length_eq
    have nO : H O = none := hO
    generalize upd (upd H O (.lst [])) p (.lst (ys.map V.str)) = H2 at *
    have kM : ∀ a, a = O → ∃ xs, H2 a = some (.lst xs) := fun a e => by rw [e]; exact ⟨_, hO2⟩
    have over : ∀ {H' : Hp}, Kp (fun a => a = O) H2 H' → Same H H' := fun {H'} kk b o e => kk.st b o (ne_of_none e nO) (S2 b o e)
    refine for_it (walk_list (xs := ys.map V.str)) (fun i σ H' => ∃ (v2 : Option V) (out : List Str), σ = [some (.ref a), some (.ref O), v2] ∧ Kp (fun a => a = O) H2 H' ∧ H' O = some (.lst (out.map V.str)) ∧ Asc out ∧ (∀ x, x ∈ out ↔ x ∈ ys.take i) ∧ out.length ≤ i)
      ⟨none, [], rfl, Kp.refl kM, hO2, ⟨.nil, .nil⟩, (fun x => by rw [List.take_zero]), Nat.le_refl _⟩ (fun i σ H' _ z => ?_) ?_ ?_
    · obtain ⟨_, _, _, z, _⟩ := z
      exact .inl (.inl (z.st _ _ npO hp2))
    · rintro i x σ H4 H3 hi ⟨v2, out, rfl, k3, hO3, hasc, hmem, hol⟩ ⟨rfl, e2⟩
      obtain ⟨y, ey, rfl⟩ := map_at e2
      rw [List.length_map] at hi
      have hym : ∀ z ∈ out, leS z y := fun z hz => by
        have hz' := (hmem z).mp hz
        obtain ⟨et, el⟩ := take_next ey
        have hpw : (ys.take (i + 1)).Pairwise leS := hles.sublist (List.take_sublist _ _)
        rw [et] at hpw
        exact (List.pairwise_append.mp hpw).2.2 z hz' y (List.mem_singleton.mpr rfl)
      have hos : ∀ z ∈ out, sok z := fun z hz => hso z (hp.mem_iff.mp (List.mem_of_mem_take ((hmem z).mp hz)))
      have lay1 : Lay 2 (.list (out.map PyData.str)) := Lay.lst fun d hd => by
        obtain ⟨z, hz, rfl⟩ := List.mem_map.mp hd
        exact .str (hos z hz) 1
      refine ⟨_, rfl, by show 0 ≤ sizeLine; decide, fun e he => ⟨.list (out.map PyData.str), .list [], .lst (.inl (.inl ((same_new he) _ _ hO3))) (dpAll_strs out), .lst (.inl (.inl upd_same)) .nil, lay1.sh (by decide), (Lay.lst (n := 1) (ds := []) (fun _ m => by cases m)).sh (by decide), _, rfl, ?_⟩⟩
      have s5 := same_new (o := .lst []) he
      have k5 : Kp (fun a => a = O) H2 (upd H3 e (.lst [])) := k3.trans (Kp.of_same (fun a m => by rw [m]; exact ⟨_, hO3⟩) s5)
      have hO5 := s5 _ _ hO3
      generalize upd H3 e (.lst []) = H5 at *
      have app : out.getLast? ≠ some y → ∃ (v2 : Option V) (o2 : List Str), [some (.ref a), some (.ref O), some (.str y)] = [some (.ref a), some (.ref O), v2] ∧ Kp (fun a => a = O) H2 (upd H5 O (.lst (out.map V.str ++ [.str y]))) ∧ (upd H5 O (.lst (out.map V.str ++ [.str y]))) O = some (.lst (o2.map V.str)) ∧ Asc o2 ∧ (∀ x, x ∈ o2 ↔ x ∈ ys.take (i + 1)) ∧ o2.length ≤ i + 1 := fun ne => by
        refine ⟨_, out ++ [y], rfl, k5.trans (Kp.put (fun a m => by rw [m]; exact ⟨_, hO5⟩) rfl), by rw [upd_same, List.map_append]; rfl, hasc.snoc hym ne, fun x => ?_, by rw [List.length_append]; exact Nat.succ_le_succ hol⟩
        rw [(take_next ey).1, List.mem_append, List.mem_append, hmem]
      cases eo : out with
      | nil =>
        subst eo
        have e0 : PyData.eqv (.list (([] : List Str).map PyData.str)) (.list []) = true := by simp [PyData.eqv, PyData.eqvAll]
        rw [e0]
        exact iteT (iteT ⟨_, rfl, .inl ⟨rfl, _, .inl (.inl hO5)⟩, _, rfl, O, _, _, rfl, rfl, hO5, (by rw [sizeLine_eq]; exact (by decide : 0 < 16777216)), app (by simp)⟩)
      | cons o1 r1 =>
        have e0 : PyData.eqv (.list ((o1 :: r1).map PyData.str)) (.list []) = false := by simp [PyData.eqv, PyData.eqvAll]
        rw [e0]
        obtain ⟨z, ez⟩ : ∃ z, out.getLast? = some z := by
          cases q : out.getLast? with
          | none => rw [List.getLast?_eq_none_iff] at q; rw [q] at eo; cases eo
          | some z => exact ⟨z, rfl⟩
        obtain ⟨r2, er⟩ := List.getLast?_eq_some_iff.mp ez
        have hat : atI (out.map V.str) (-1) = some (.str z) := by
          rw [er, List.map_append]
          exact atI_last _ _
        refine iteF ⟨_, rfl, _, rfl, O, _, _, _, rfl, rfl, .inl (.inl hO5), hat, _, rfl, rfl, _, rfl, ?_⟩
        rw [decS]
        by_cases q : z = y
        · rw [decide_eq_true q]
          refine iteF ⟨_, out, rfl, k5, hO5, hasc, fun x => ?_, by omega⟩
          rw [(take_next ey).1, List.mem_append, ← hmem, List.mem_singleton]
          refine ⟨.inl, fun m => m.elim id fun m => ?_⟩
          rw [m, ← q, er]
          exact List.mem_append_right _ List.mem_cons_self
        · rw [decide_eq_false q]
          refine iteT ⟨_, rfl, .inl ⟨rfl, _, .inl (.inl hO5)⟩, _, rfl, O, _, _, rfl, rfl, hO5, (by rw [List.length_map, sizeLine_eq]; omega), app (by rw [ez]; simpa using q)⟩
    · rintro σ H3 ⟨v2, out, rfl, k3, hO3, hasc, hmem, hol⟩
      rw [List.length_map, List.take_of_length_le (Nat.le_refl _)] at hmem
      refine ⟨_, rfl, .inl ⟨O, _, rfl, .inl (.inl hO3), fun r hr' => ?_⟩⟩
      exact k r out _ ((over k3).trans (same_new hr')) (.inl (.inl upd_same)) hasc fun x => (hmem x).trans hp.mem_iff
abbrev s_l_first_wrong : Stmt := top 26
abbrev N_l_first_wrong : List Str := ["_law_tree", "_law_known", "_law_word", "_law_held", "_law_at", "_law_parts_here", "_law_outside", "_law_wrong"]
theorem sc_l_first_wrong : FnScope N_l_first_wrong ["_law_tree", "_law_known"] (defScope s_l_first_wrong) := ⟨rfl, rfl, rfl, by decide +kernel, rfl, by decide +kernel, by decide +kernel⟩
theorem ok_l_first_wrong (T : Txt mg) (c_l_parts : Cl P w K mg base 1 "_law_parts" (spPartsL K)) (c_l_binds : Cl P w K mg base 1 "_law_binds" (spBinds K)) (D : At K mg "_law_first_wrong" s_l_first_wrong ["_law_tree", "_law_known"]) : ∀ n, Cl P w K mg base (n + 2) "_law_first_wrong" (spFirst K n) := by
  intro n
  induction n with
  | zero =>
    refine cl_of (k := 1) D sc_l_first_wrong (fun vs H Q E h => ?_) fun f cdv A outer s H vs Q E hr h => ?_
    · obtain ⟨v, b, t, known, rfl, _⟩ := h
      rfl
    · obtain ⟨v, b, t, known, _, _, _, z, _⟩ := h
      cases t with
      | mk hd ps => exact absurd z (by show ¬ (Tr.deps ps + 1 ≤ 0); omega)
  | succ n ih =>
    refine cl_of (k := n + 2) D sc_l_first_wrong (fun vs H Q E h => ?_) fun f cdv A outer s H vs Q E hr h => ?_
    · obtain ⟨v, b, t, known, rfl, _⟩ := h
      rfl
    · obtain ⟨v, b, t, known, rfl, hd, o, hdep, hb, hbl, k⟩ := h
      cases t with
      | mk h ps =>
      obtain ⟨o1, o2, o3⟩ := ok_mk' o
      obtain ⟨a, its, rfl, hs, hx⟩ := view hd
      have fle : flatDs (Tr.encL ps) = true := flat_encL ps
      have hhl := held_len o1 o2
      have ew : (Tr.mk h ps).wrong known = (match (own false h).filter (fun x => !decide (x ∈ known)) with
        | x :: _ => some ("unknown", x)
        | [] => match twice [] (held h) with
          | some x => some ("twice", x)
          | none => Tr.wrongs known h ps.length 0 ps) := rfl
      refine ⟨_, (pss_cons (ps_set (i := 2) sc_l_first_wrong.nd rfl (Or.inl rfl) (pe_ix ix_tup (pv 0) pe_int (fun _ _ => rfl)))
      (pss_mid (ps_if (PW.pt (pw_and (pt_inW (pv 2) (.cons (.cons .nil)) (show 2 ≤ sizeLine by decide) (by rfl)) (pw_and1 (pt_cmpR op_notIn_seq (pe_ix ix_tup (pv 0) pe_int (fun _ _ => rfl)) (pv 1) (by rfl)))))
        (pss_one (ps_ret (pe_tup (pa_cons pe_str (pa_cons (pe_ix ix_tup (pv 0) pe_int (fun _ _ => rfl)) pa_nil)))))
        pss_nil)
      (pss_cons (ps_set (i := 3) sc_l_first_wrong.nd rfl (Or.inl rfl) (pe_c c_l_binds hr (by omega) (by rfl) (pa_cons (pv 0) pa_nil)))
      (pss_mid (ps_for PassesOwn.never rfl (pi_range1 (by rfl) T.range (pa_cons (pe_callB call_len_seq (by rfl) T.len (by decide +kernel) (pa_cons (pv 3) pa_nil)) pa_nil)) (pg_name (i := 4) sc_l_first_wrong.nd rfl (Or.inl rfl))
        (pss_one (ps_if (pt_cmpR op_in_seq (pe_ix ix_list (pv 3) (pv 4) (fun _ _ => rfl)) (pe_slice sl_list (pv 3) po_none (po_some (pv 4))) (by rfl))
          (pss_one (ps_ret (pe_tup (pa_cons pe_str (pa_cons (pe_ix ix_list (pv 3) (pv 4) (fun _ _ => rfl)) pa_nil)))))
          pss_nil)))
      (pss_cons (ps_set (i := 5) sc_l_first_wrong.nd rfl (Or.inl rfl) (pe_c c_l_parts hr (by omega) (by rfl) (pa_cons (pv 0) pa_nil)))
      (pss_cons (ps_for PassesOwn.never rfl (pi_range1 (by rfl) T.range (pa_cons (pe_callB call_len_seq (by rfl) T.len (by decide +kernel) (pa_cons (pv 5) pa_nil)) pa_nil)) (pg_name (i := 4) sc_l_first_wrong.nd rfl (Or.inl rfl))
        (pss_mid (ps_set (i := 6) sc_l_first_wrong.nd rfl (Or.inl rfl) (pe_and (pe_cmpR op_eq (pv 2) pe_str (nomark _)) (pe_one (pe_cmpR op_lt (pv 4) (pe_op op_sub (pe_callB call_len_seq (by rfl) T.len (by decide +kernel) (pa_cons (pv 5) pa_nil)) pe_int) (nomark _)))))
        (pss_mid (ps_set (i := 7) sc_l_first_wrong.nd rfl (Or.inl rfl) (pe_c ih hr (by omega) (by rfl) (pa_cons (pe_ix ix_list (pv 5) (pv 4) (fun _ _ => rfl)) (pa_cons (pe_ifExp (pt_val (pv 6)) (pv 1) (pe_op op_cat (pv 1) (pv 3))) pa_nil))))
        (pss_one (ps_if (pt_cmpR op_notN (pv 7) pe_non (nomark _))
          (pss_one (ps_ret (pv 7)))
          pss_nil)))))
      (pss_one (ps_ret pe_non)))))))), ?_⟩
      refine ⟨_, rfl, a, its, _, _, rfl, rfl, hs, hx.head, ?_⟩
      refine ⟨fun σ' H' => σ' = [some (.ref a), some (.ref b), some (.str (wd h)), none, none, none, none, none] ∧ Same H H' ∧ (own false h).filter (fun x => !decide (x ∈ known)) = [], ?_, ?_⟩
      · refine ⟨_, rfl, rfl, fun H1 s1 => ?_⟩
        show if inV (.str (wd h)) ((wordsG false).map V.str) = true then _ else _
        rw [in_G o1]
        cases eo : !(own false h).isEmpty with
        | false =>
          have e0 : own false h = [] := by
            cases q : own false h with
            | nil => rfl
            | cons x r => rw [q] at eo; cases eo
          exact iteF (iteF ⟨rfl, s1, by rw [e0]; rfl⟩)
        | true =>
          obtain ⟨y, ey, e1⟩ := own_at hx eo
          refine iteT ⟨_, rfl, a, its, _, _, rfl, rfl, sqt_same s1 hs, e1, _, rfl, b, _, rfl, .inl (.inl (.inl (s1 _ _ hb))), rfl, flat_strV _, _, rfl, ?_⟩
          show if (!inV (.str y) (known.map V.str)) = true then _ else _
          rw [in_words]
          have ef : (own false h).filter (fun x => !decide (x ∈ known)) = if y ∈ known then [] else [y] := by
            rw [ey]
            by_cases q : y ∈ known <;> simp [q]
          by_cases q : y ∈ known
          · rw [decide_eq_true q]
            rw [if_pos q] at ef
            exact iteF ⟨rfl, s1, ef⟩
          · rw [decide_eq_false q]
            rw [if_neg q] at ef
            rw [ef] at ew
            refine iteT ⟨_, rfl, a, its, _, _, rfl, rfl, sqt_same s1 hs, e1, by show 2 ≤ sizeLine; decide, fun p hp => ?_⟩
            refine k _ _ (s1.trans (same_new hp)) ?_
            rw [ew]
            exact .tup (.inl (.inl upd_same)) (.cons (.str _) (.cons (.str _) .nil))
      · rintro σ' H0 ⟨rfl, s0, ef⟩
        rw [ef] at ew
        refine ⟨_, rfl, .ref a, h, Tr.encL ps, rfl, dp_same s0 _ _ hd, by rw [encL_len]; exact o1, by rw [encL_len]; omega, fun hl H1 s1 _ hhl1 => ?_⟩
        have S1 := s0.trans s1
        refine ⟨fun σ' H' => ∃ v4 : Option V, σ' = [some (.ref a), some (.ref b), some (.str (wd h)), some (.ref hl), v4, none, none, none] ∧ Same H1 H' ∧ twice [] (held h) = none, ?_, ?_⟩
        · have hl3 : ((held h).map V.str).length = (held h).length := List.length_map _
          refine ⟨_, rfl, hl, _, rfl, .inl (.inl (.inl hhl1)), _, rfl, by omega, by omega, ?_⟩
          refine for_it (walk_upto (n := (((held h).map V.str).length : Int).toNat)) (fun i σ H' => ∃ v4 : Option V, σ = [some (.ref a), some (.ref b), some (.str (wd h)), some (.ref hl), v4, none, none, none] ∧ Same H1 H' ∧ twice [] (held h) = twice ((held h).take i) ((held h).drop i))
            ⟨none, rfl, Same.refl _, rfl⟩ (fun _ _ _ _ _ => trivial) ?_ ?_
          · rintro i x σ H4 H4' hi ⟨v4, rfl, s4, et⟩ ⟨rfl, rfl⟩
            have hi' : i < (held h).length := by omega
            obtain ⟨y, ey⟩ : ∃ y, (held h)[i]? = some y := ⟨_, List.getElem?_eq_getElem hi'⟩
            have hat : atI ((held h).map V.str) ((i : Nat) : Int) = some (.str y) := atI_nat (by rw [List.getElem?_map, ey]; rfl)
            refine ⟨_, rfl, _, rfl, hl, _, _, _, rfl, rfl, .inl (.inl (s4 _ _ hhl1)), hat, _, rfl, _, rfl, _, rfl, hl, _, rfl, .inl (.inl (s4 _ _ hhl1)), fun p hp => ?_⟩
            rw [cut_to (show i ≤ ((held h).map V.str).length by omega), ← List.map_take]
            have s5 := same_new (o := .lst (((held h).take i).map V.str)) hp
            refine ⟨p, _, rfl, .inl (.inl (.inl upd_same)), rfl, flat_strV _, _, rfl, ?_⟩
            show if inV (.str y) (((held h).take i).map V.str) = true then _ else _
            rw [in_words]
            rw [drop_next ey] at et
            have et' : twice [] (held h) = if y ∈ (held h).take i then some y else twice ((held h).take i ++ [y]) ((held h).drop (i + 1)) := et
            by_cases q : y ∈ (held h).take i
            · rw [decide_eq_true q]
              rw [if_pos q] at et'
              refine iteT ⟨_, rfl, _, rfl, hl, _, _, _, rfl, rfl, .inl (.inl (s5 _ _ (s4 _ _ hhl1))), hat, by show 2 ≤ sizeLine; decide, fun p2 hp2 => ?_⟩
              refine k _ _ ((S1.trans (s4.trans s5)).trans (same_new hp2)) ?_
              rw [ew, et']
              exact .tup (.inl (.inl upd_same)) (.cons (.str _) (.cons (.str _) .nil))
            · rw [decide_eq_false q]
              rw [if_neg q, ← (take_next ey).1] at et'
              exact iteF ⟨_, rfl, s4.trans s5, et'⟩
          · rintro σ H4 ⟨v4, rfl, s4, et⟩
            rw [hl3, Int.toNat_natCast, List.drop_of_length_le (Nat.le_refl _)] at et
            exact ⟨v4, rfl, s4, et⟩
        · rintro σ' H2 ⟨v4, rfl, s2, etw⟩
          have ew' : (Tr.mk h ps).wrong known = Tr.wrongs known h ps.length 0 ps := by rw [ew, etw]
          have S2 := S1.trans s2
          refine ⟨_, rfl, .ref a, h, Tr.encL ps, rfl, dp_same S2 _ _ hd, by rw [encL_len]; exact o1, fle, by rw [encL_len]; omega, fun pl us H3 s3 _ hpl hus => ?_⟩
          have hul := DpAll.len hus
          rw [encL_len] at hul
          have S3 := S2.trans s3
          have hhl3 := (s2.trans s3) _ _ hhl1
          refine ⟨_, rfl, pl, _, rfl, .inl (.inl (.inl hpl)), _, rfl, by omega, by omega, ?_⟩
          refine for_it (walk_upto (n := (us.length : Int).toNat)) (fun i σ H' => ∃ (v4 v6 v7 : Option V), σ = [some (.ref a), some (.ref b), some (.str (wd h)), some (.ref hl), v4, some (.ref pl), v6, v7] ∧ Same H3 H' ∧ (Tr.mk h ps).wrong known = Tr.wrongs known h ps.length i (ps.drop i))
            ⟨v4, none, none, rfl, Same.refl _, ew'⟩ (fun _ _ _ _ _ => trivial) ?_ ?_
          · rintro i x σ H4' H4 hi ⟨v4, v6, v7, rfl, s4, ei⟩ ⟨rfl, rfl⟩
            have hi' : i < ps.length := by omega
            have hi2 : i < us.length := by omega
            obtain ⟨d, g1, g2⟩ := DpAll.atV hus (List.getElem?_eq_getElem hi2)
            obtain ⟨c, ec, rfl⟩ := encL_at' g1
            have hcm : c ∈ ps := List.mem_of_getElem? ec
            have hul5 := under_len o1 o2 ps.length i
            rw [drop_next ec] at ei
            have ei' : (Tr.mk h ps).wrong known = (match c.wrong (known ++ under h ps.length i) with
              | some e => some e
              | none => Tr.wrongs known h ps.length (i + 1) (ps.drop (i + 1))) := ei
            refine ⟨fun σ' H' => σ' = [some (.ref a), some (.ref b), some (.str (wd h)), some (.ref hl), some (.int ((i : Nat) : Int)), some (.ref pl), some (.bl (decide (isLet h = true ∧ i + 1 < ps.length))), v7] ∧ H' = H4, ?_, ?_⟩
            · refine ⟨_, rfl, rfl, _, rfl, ?_⟩
              rw [eq_let o1]
              cases eL : isLet h with
              | false => exact iteF ⟨by simp, rfl⟩
              | true =>
                refine iteT ⟨_, rfl, _, rfl, pl, _, rfl, .inl (.inl (.inl (s4 _ _ hpl))), _, _, rfl, rfl, _, _, rfl, rfl, ?_⟩
                refine ⟨?_, rfl⟩
                have e : decide (((i : Nat) : Int) < (us.length : Int) - 1) = decide (true = true ∧ i + 1 < ps.length) := by
                  rw [decide_eq_decide]
                  exact ⟨fun z => ⟨rfl, by omega⟩, fun z => by omega⟩
                show [_, _, _, _, _, _, some (V.bl (decide (((i : Nat) : Int) < (us.length : Int) - 1))), _] = _
                rw [e]
            · rintro σ' H5 ⟨rfl, rfl⟩
              have hat : atI us (((i : Nat) : Int)) = some us[i] := by
                exact atI_nat (List.getElem?_eq_getElem hi2)
              refine ⟨fun σ' H' => ∃ r : V, σ' = [some (.ref a), some (.ref b), some (.str (wd h)), some (.ref hl), some (.int ((i : Nat) : Int)), some (.ref pl), some (.bl (decide (isLet h = true ∧ i + 1 < ps.length))), some r] ∧ Same H5 H' ∧ Dp K H' r (wrD (c.wrong (known ++ under h ps.length i))), ?_, ?_⟩
              · refine ⟨_, rfl, _, rfl, pl, _, _, _, rfl, rfl, .inl (.inl (s4 _ _ hpl)), hat, _, rfl, _, rfl, ?_⟩
                by_cases q : isLet h = true ∧ i + 1 < ps.length
                · rw [decide_eq_true q]
                  have eu : under h ps.length i = [] := by unfold under; rw [if_pos q]
                  refine iteT ⟨_, rfl, _, b, c, known, rfl, dp_same s4 _ _ g2, o3 c hcm, dep_mk.mp hdep c hcm, (S3.trans s4) _ _ hb, by omega, fun r H6 s6 hr6 => ?_⟩
                  refine ⟨r, rfl, s6, ?_⟩
                  rw [eu, List.append_nil]
                  exact hr6
                · rw [decide_eq_false q]
                  have eu : under h ps.length i = held h := by unfold under; rw [if_neg q]
                  refine iteF ⟨_, rfl, _, rfl, ?_⟩
                  refine ⟨b, hl, _, _, rfl, rfl, (S3.trans s4) _ _ hb, s4 _ _ hhl3, by rw [List.length_map, List.length_map, sizeLine_eq]; omega, fun l hl6 => ?_⟩
                  have s6 := same_new (o := .lst (known.map V.str ++ (held h).map V.str)) hl6
                  refine ⟨_, l, c, known ++ held h, rfl, dp_same (s4.trans s6) _ _ g2, o3 c hcm, dep_mk.mp hdep c hcm, by rw [List.map_append]; exact upd_same, by rw [List.length_append]; omega, fun r H7 s7 hr7 => ?_⟩
                  refine ⟨r, rfl, s6.trans s7, ?_⟩
                  rw [eu]
                  exact hr7
              · rintro σ' H6 ⟨r, rfl, s6, hr6⟩
                have S6 := S3.trans (s4.trans s6)
                refine ⟨_, rfl, rfl, _, rfl, ?_⟩
                cases ewc : c.wrong (known ++ under h ps.length i) with
                | none =>
                  rw [ewc] at hr6 ei'
                  cases hr6
                  exact iteF ⟨_, _, _, rfl, s4.trans s6, ei'⟩
                | some e =>
                  rw [ewc] at hr6 ei'
                  have hr7 := hr6
                  obtain ⟨t, its, rfl, _⟩ := dp_tup hr6
                  refine iteT ⟨_, rfl, k _ _ S6 ?_⟩
                  rw [ei']
                  exact hr7
          · rintro σ H4 ⟨v4, v6, v7, rfl, s4, ei⟩
            rw [show (us.length : Int).toNat = ps.length by omega, List.drop_of_length_le (Nat.le_refl _)] at ei
            refine k _ _ (S3.trans s4) ?_
            rw [ei]
            exact .non
abbrev s_l_told : Stmt := top 29
abbrev N_l_told : List Str := ["_law_tree", "_law_told_here", "e"]
theorem sc_l_told : FnScope N_l_told ["_law_tree"] (defScope s_l_told) := ⟨rfl, rfl, rfl, by decide +kernel, rfl, by decide +kernel, by decide +kernel⟩
theorem ok_l_told (M : Mk P w K mg base C "BadName" ["what", "name"]) (te : PySem.W.exmOne K (.ref C) (.ref C) = some true) (c_p_check_names : ClX P w K mg base 17 "check_names" (spCheck K C)) (D : At K mg "_law_told" s_l_told ["_law_tree"]) : Cl P w K mg base 18 "_law_told" (spTold K) := by
  refine cl_of (k := 17) D sc_l_told (fun vs H Q E h => ?_) fun f cdv A outer s H vs Q E hr h => ?_
  · obtain ⟨v, t, rfl, _⟩ := h
    rfl
  · obtain ⟨v, t, rfl, hd, o, hdep, k⟩ := h
    refine ⟨_, (pss_cons (ps_set (i := 1) sc_l_told.nd rfl (Or.inl rfl) (pe_tup (pa_cons pe_str (pa_cons pe_str pa_nil))))
      (pss_mid (ps_try_held (i := 2) (tb := fun W => tIfS (tTest (tOp (fun x y H Q => y = .non ∧ Q (.bl (decide (x = .non))) H) (tCallS (spCheck K C) (WE W) (tCons (tVar 0) tNil)) (tC .non))) (tAsg (tC .non) (gName 1)) tNext)
          (ts := fun a => tAsg (tTup (tCons (tFldX K "what" (tVar 2)) (tCons (tFldX K "name" (tVar 2)) tNil))) (gName 1)) rfl rfl sc_l_told.nd rfl rfl ⟨rfl, by decide, .inl M.g⟩ rfl
        (fun W pn xe tk _ => pss_one (ps_if (pt_cmpR op_isN (by exact (pe_cS c_p_check_names hr (by decide) (by rfl) tk (pa_cons (pv 0) pa_nil))) pe_non (nomark _)) (pss_one (ps_set (i := 1) sc_l_told.nd rfl (Or.inl rfl) pe_non)) pss_nil))
        (fun a pn => pss_one (ps_set (i := 1) sc_l_told.nd rfl (Or.inl rfl) (by exact (pe_tup (pa_cons (pe_fldX (pv 2)) (pa_cons (pe_fldX (pv 2)) pa_nil)))))))
      (pss_one (ps_ret (pv 1))))), ?_⟩
    refine ⟨by show 2 ≤ sizeLine; decide, fun p0 hp0 => ?_⟩
    have s0 := same_new (o := .tup [.str "none", .str ""]) hp0
    refine ⟨fun σ' H' => ∃ r : V, σ' = [some v, some r, none] ∧ Same H H' ∧ Dp K H' r (wrD (t.wrong [])), ?_, ?_⟩
    · refine ⟨_, rfl, v, t, rfl, dp_same s0 _ _ hd, o, hdep, fun e H' s' => ⟨rfl, _, rfl, iteT ⟨_, rfl, s0.trans s', by rw [e]; exact .non⟩⟩, fun e we d H' s' hd' => ⟨te, fun a ha => ?_⟩⟩
      have s2 := same_new (o := ExH a (.ref C) (some d)) ha
      refine ⟨_, rfl, a, C, d, _, .str e.1, rfl, M.xf, M.no _ (by decide +kernel), upd_same, s2 _ _ hd', rfl, _, rfl, a, C, d, _, .str e.2, rfl, M.xf, M.no _ (by decide +kernel), upd_same, s2 _ _ hd', rfl, by show 2 ≤ sizeLine; decide, fun p hp => ?_⟩
      refine ⟨.ref p, rfl, (s0.trans s').trans (s2.trans (same_new hp)), ?_⟩
      rw [we]
      exact .tup (.inl (.inl upd_same)) (.cons (.str _) (.cons (.str _) .nil))
    · rintro σ' H' ⟨r, rfl, s', hr'⟩
      exact ⟨_, rfl, k r H' s' hr'⟩
end
end K02

set_option linter.all false
namespace K02
open PySem L2 Cm
/-- two rows of trees, one by one: as deep at most, not too large -/
def Chs (N : Nat) : List Tr → List Tr → Prop
  | [], [] => True
  | s :: ss, t :: ts => (t.ok ∧ t.dep ≤ s.dep ∧ t.size ≤ N * s.size) ∧ Chs N ss ts
  | _, _ => False
theorem Chs.len {N : Nat} : ∀ {ss ts : List Tr}, Chs N ss ts → ts.length = ss.length
  | [], [], _ => rfl
  | s :: ss, t :: ts, h => congrArg (· + 1) (Chs.len h.2)
  | [], _ :: _, h => h.elim
  | _ :: _, [], h => h.elim
theorem Chs.snoc {N : Nat} {s t : Tr} (x : t.ok ∧ t.dep ≤ s.dep ∧ t.size ≤ N * s.size) : ∀ {ss ts : List Tr}, Chs N ss ts → Chs N (ss ++ [s]) (ts ++ [t])
  | [], [], _ => ⟨x, trivial⟩
  | s :: ss, t :: ts, h => ⟨h.1, Chs.snoc x h.2⟩
  | [], _ :: _, h => h.elim
  | _ :: _, [], h => h.elim
theorem Chs.oks {N : Nat} : ∀ {ss ts : List Tr}, Chs N ss ts → Tr.oks ts
  | [], [], _ => trivial
  | s :: ss, t :: ts, h => ⟨h.1.1, Chs.oks h.2⟩
  | [], _ :: _, h => h.elim
  | _ :: _, [], h => h.elim
theorem Chs.deps {N : Nat} : ∀ {ss ts : List Tr}, Chs N ss ts → Tr.deps ts ≤ Tr.deps ss
  | [], [], _ => Nat.le_refl _
  | s :: ss, t :: ts, h => by
    have h1 := Chs.deps h.2
    have h2 := h.1.2.1
    show max t.dep (Tr.deps ts) ≤ max s.dep (Tr.deps ss)
    omega
  | [], _ :: _, h => h.elim
  | _ :: _, [], h => h.elim
theorem Chs.sizes {N : Nat} : ∀ {ss ts : List Tr}, Chs N ss ts → Tr.sizes ts ≤ N * Tr.sizes ss
  | [], [], _ => Nat.zero_le _
  | s :: ss, t :: ts, h => by
    have h1 := Chs.sizes h.2
    have h2 := h.1.2.2
    show t.size + Tr.sizes ts ≤ N * (s.size + Tr.sizes ss)
    rw [Nat.mul_add]
    omega
  | [], _ :: _, h => h.elim
  | _ :: _, [], h => h.elim
theorem Chs.app {N : Nat} : ∀ {ss ts ss2 ts2 : List Tr}, Chs N ss ts → Chs N ss2 ts2 → Chs N (ss ++ ss2) (ts ++ ts2)
  | [], [], _, _, _, k => k
  | s :: ss, t :: ts, _, _, h, k => ⟨h.1, Chs.app h.2 k⟩
  | [], _ :: _, _, _, h, _ => h.elim
  | _ :: _, [], _, _, h, _ => h.elim
/-- a row that is drawn again from a row -/
def Again {α : Type} (L M : List α) : Prop := (∃ x ∈ L, M = [x]) ∨ M = L.reverse
theorem Again.mem {α : Type} {L M : List α} (h : Again L M) : ∀ x ∈ M, x ∈ L := by
  intro x hx
  rcases h with ⟨y, hy, rfl⟩ | rfl
  · rw [List.mem_singleton.mp hx]
    exact hy
  · exact List.mem_reverse.mp hx
theorem Again.len {α : Type} {L M : List α} (h : Again L M) : M.length ≤ max 1 L.length := by
  rcases h with ⟨y, hy, rfl⟩ | rfl
  · exact Nat.le_max_left _ _
  · rw [List.length_reverse]
    exact Nat.le_max_right _ _
theorem Again.of_map {α β : Type} {f : α → β} {L : List α} {es : List β} (h : Again (L.map f) es) : ∃ M, Again L M ∧ es = M.map f := by
  rcases h with ⟨y, hy, rfl⟩ | rfl
  · obtain ⟨x, hx, rfl⟩ := List.mem_map.mp hy
    exact ⟨[x], .inl ⟨x, hx, rfl⟩, rfl⟩
  · exact ⟨L.reverse, .inr rfl, by rw [List.map_reverse]⟩
theorem sizes_mem {t : Tr} : ∀ {ts : List Tr}, t ∈ ts → t.size ≤ Tr.sizes ts
  | a :: ts, m => by
    show t.size ≤ a.size + Tr.sizes ts
    rcases List.mem_cons.mp m with rfl | m
    · omega
    · have := sizes_mem m
      omega
theorem sizes_app : ∀ (as bs : List Tr), Tr.sizes (as ++ bs) = Tr.sizes as + Tr.sizes bs
  | [], bs => by show Tr.sizes bs = 0 + Tr.sizes bs; omega
  | a :: as, bs => by
    have := sizes_app as bs
    show a.size + Tr.sizes (as ++ bs) = a.size + Tr.sizes as + Tr.sizes bs
    omega
theorem sizes_rev : ∀ as : List Tr, Tr.sizes as.reverse = Tr.sizes as
  | [] => rfl
  | a :: as => by
    rw [List.reverse_cons, sizes_app, sizes_rev as]
    show Tr.sizes as + (a.size + 0) = a.size + Tr.sizes as
    omega
theorem Again.sizes {L M : List (Str × Tr)} (h : Again L M) : Tr.sizes (M.map (·.2)) ≤ Tr.sizes (L.map (·.2)) := by
  rcases h with ⟨y, hy, rfl⟩ | rfl
  · show y.2.size + 0 ≤ _
    have := sizes_mem (List.mem_map.mpr ⟨y, hy, rfl⟩ : y.2 ∈ L.map (·.2))
    omega
  · rw [List.map_reverse, sizes_rev]
    exact Nat.le_refl _
def rowT (r : Str × Tr) : PyData := rowD (r.1, r.2.enc)
theorem rows_zip (L : List (Str × Tr)) (l : Tr) : (((L.map (·.1)).zip (Tr.encL (L.map (·.2) ++ [l]))).map rowD) = L.map rowT ∧ (Tr.encL (L.map (·.2) ++ [l])).drop (L.map (·.1)).length = [l.enc] := by
  obtain ⟨e1, e2⟩ := zip_end (xs := L.map (·.1)) (ts := L.map (·.2)) (t := l) (by rw [List.length_map, List.length_map])
  refine ⟨?_, e2⟩
  rw [e1]
  unfold rowsL
  induction L with
  | nil => rfl
  | cons r L ih =>
    show rowD (r.1, r.2.enc) :: ((L.map (·.1)).zip (Tr.encL (L.map (·.2)))).map rowD = rowT r :: L.map rowT
    rw [ih (by
      obtain ⟨e1, e2⟩ := zip_end (xs := L.map (·.1)) (ts := L.map (·.2)) (t := l) (by rw [List.length_map, List.length_map])
      exact e1) (by
      obtain ⟨e1, e2⟩ := zip_end (xs := L.map (·.1)) (ts := L.map (·.2)) (t := l) (by rw [List.length_map, List.length_map])
      exact e2)]
    rfl
/-- names and trees as rows, and the last tree -/
theorem rows_of {xs : List Str} {ps : List Tr} (h : ps.length = xs.length + 1) : ∃ (L : List (Str × Tr)) (l : Tr), xs = L.map (·.1) ∧ ps = L.map (·.2) ++ [l] := by
  induction xs generalizing ps with
  | nil =>
    obtain ⟨l, rfl⟩ := one_of (show ps.length = 1 from h)
    exact ⟨[], l, rfl, rfl⟩
  | cons x xs ih =>
    cases ps with
    | nil => simp at h
    | cons p ps =>
      obtain ⟨L, l, rfl, rfl⟩ := ih (ps := ps) (by simpa using h)
      exact ⟨(x, p) :: L, l, rfl, rfl⟩
theorem deps_app : ∀ (as bs : List Tr), Tr.deps (as ++ bs) = max (Tr.deps as) (Tr.deps bs)
  | [], bs => by show Tr.deps bs = max 0 (Tr.deps bs); omega
  | a :: as, bs => by
    have := deps_app as bs
    show max a.dep (Tr.deps (as ++ bs)) = max (max a.dep (Tr.deps as)) (Tr.deps bs)
    omega
def spDoub (K : PySem.W.Frag) : Sp := fun vs H Q _ => ∃ (h c : Addr) (v : V) (t : Tr), vs = [.ref h, v] ∧ Hand H h c ∧ Dp K H v t.enc ∧ t.ok ∧
  ∀ (v' : V) (t' : Tr) (H' : Hp), Kh h H H' → Hand H' h c → Dp K H' v' t'.enc → t'.ok → t'.dep ≤ t.dep → t'.size ≤ 2 * t.size → Q v' H'
def is3 (h : Hd) : Bool := kd h == 4 || kd h == 5
theorem in_3 {h : Hd} {n : Nat} (o : hok h n) : inV (.str (wd h)) ((["fn", "let", "rec"] : List Str).map V.str) = is3 h :=
  by_kind (fun w => inV (.str w) ((["fn", "let", "rec"] : List Str).map V.str)) (fun k => k == 4 || k == 5) (by decide +kernel) o
section
variable {P : Program} {w : World} {K : PySem.W.Frag} {mg : Str → Option Value} {base : Heap}
/-- what is doubled of a form -/
theorem doub_of {H : Hp} {h : Hd} {ps : List Tr} {its : List V} (o : (Tr.mk h ps).ok) (x : Items K H (Tr.encL ps) h its) (e : is3 h = true) : ∃ (q : Addr) (us vs : List V) (ds : List PyData) (dl : PyData),
    its = .str (wd h) :: .ref q :: vs ∧ SqT K H q us ∧ DpAll K H us ds ∧ flatDs ds = true ∧ DpAll K H vs [dl] ∧ flatD dl = true ∧ (us.length < 3 → ∀ es, Again ds es → ∃ t' : Tr, t'.ok ∧ t'.dep ≤ (Tr.mk h ps).dep ∧ t'.size ≤ 2 * (Tr.mk h ps).size ∧
      ∀ (H' : Hp) (a' ts : Addr) (vs' ws : List V), SqT K H' a' (.str (wd h) :: .ref ts :: vs') → SqT K H' ts ws → DpAll K H' ws (ds ++ es) → DpAll K H' vs' [dl] → Dp K H' (.ref a') t'.enc) := by
  obtain ⟨o1, o2, o3⟩ := ok_mk' o
  cases h with
  | fn xs =>
    obtain ⟨p, rfl⟩ := one_of (show ps.length = 1 from o1.1)
    obtain ⟨q, vs, rfl, hq, hv⟩ := x
    refine ⟨q, _, vs, xs.map PyData.str, p.enc, rfl, hq, dpAll_strs xs, flat_strs xs, hv, flat_enc p, fun hl es ha => ?_⟩
    rw [List.length_map] at hl
    obtain ⟨M, hM, rfl⟩ := ha.of_map
    have hml := hM.len
    refine ⟨.mk (.fn (xs ++ M)) [p], ⟨⟨rfl, by rw [List.length_append]; omega, fun y hy => ?_⟩, by show 1 ≤ 11; decide, o3 p List.mem_cons_self, trivial⟩, Nat.le_refl _, by show p.size + 0 + 1 ≤ 2 * (p.size + 0 + 1); omega, fun H' a' ts vs' ws h1 h2 h3 h4 => ?_⟩
    · rcases List.mem_append.mp hy with hy | hy
      · exact o1.2.2 y hy
      · exact o1.2.2 y (hM.mem y hy)
    · rw [← List.map_append] at h3
      have e := dpAll_strs_inv h3
      subst e
      exact unview (h := .fn (xs ++ M)) (ds := [p.enc]) h1 ⟨ts, vs', rfl, h2, h4⟩
  | bind w xs =>
    obtain ⟨L, l, rfl, rfl⟩ := rows_of (show ps.length = xs.length + 1 from o1.1)
    obtain ⟨q, rows, vs, rfl, hq, hr, hv⟩ := x
    obtain ⟨e1, e2⟩ := rows_zip L l
    rw [e1] at hr
    rw [e2] at hv
    have fl : flatDs (L.map rowT) = true := flatDs_of _ fun d hd => by
      obtain ⟨r, _, rfl⟩ := List.mem_map.mp hd
      simp [rowT, rowD, flatD, flatDs, flat_enc]
    refine ⟨q, rows, vs, L.map rowT, l.enc, rfl, hq, hr, fl, hv, flat_enc l, fun hl es ha => ?_⟩
    have hrl := DpAll.len hr
    rw [List.length_map] at hrl
    obtain ⟨M, hM, rfl⟩ := ha.of_map
    have hml := hM.len
    have hms := hM.sizes
    have hz := sizes_app (L.map (·.2)) [l]
    have hz1 : Tr.sizes [l] = l.size := by show l.size + 0 = l.size; omega
    refine ⟨.mk (.bind w ((L ++ M).map (·.1))) ((L ++ M).map (·.2) ++ [l]), ⟨⟨by rw [List.length_append, List.length_map, List.length_map]; rfl, o1.2.1, fun y hy => ?_⟩, by rw [List.length_append, List.length_map, List.length_append]; show _ + 1 ≤ 11; omega, oks_iff.mpr fun u hu => ?_⟩, ?_, ?_, fun H' a' ts vs' ws h1 h2 h3 h4 => ?_⟩
    · obtain ⟨r, hr', rfl⟩ := List.mem_map.mp hy
      rcases List.mem_append.mp hr' with m | m
      · exact o1.2.2 _ (List.mem_map.mpr ⟨r, m, rfl⟩)
      · exact o1.2.2 _ (List.mem_map.mpr ⟨r, hM.mem r m, rfl⟩)
    · rcases List.mem_append.mp hu with m | m
      · obtain ⟨r, hr', rfl⟩ := List.mem_map.mp m
        rcases List.mem_append.mp hr' with m | m
        · exact o3 _ (List.mem_append_left _ (List.mem_map.mpr ⟨r, m, rfl⟩))
        · exact o3 _ (List.mem_append_left _ (List.mem_map.mpr ⟨r, hM.mem r m, rfl⟩))
      · exact o3 _ (List.mem_append_right _ m)
    · refine dep_mk.mpr fun u hu => ?_
      have hd := deps_le.mp (Nat.le_refl (Tr.deps (L.map (·.2) ++ [l])))
      rcases List.mem_append.mp hu with m | m
      · obtain ⟨r, hr', rfl⟩ := List.mem_map.mp m
        rcases List.mem_append.mp hr' with m | m
        · exact hd _ (List.mem_append_left _ (List.mem_map.mpr ⟨r, m, rfl⟩))
        · exact hd _ (List.mem_append_left _ (List.mem_map.mpr ⟨r, hM.mem r m, rfl⟩))
      · exact hd _ (List.mem_append_right _ m)
    · show Tr.sizes ((L ++ M).map (·.2) ++ [l]) + 1 ≤ 2 * (Tr.sizes (L.map (·.2) ++ [l]) + 1)
      rw [sizes_app, List.map_append, sizes_app, sizes_app]
      omega
    · obtain ⟨e3, e4⟩ := rows_zip (L ++ M) l
      rw [← List.map_append] at h3
      exact unview (h := .bind w ((L ++ M).map (·.1))) (ds := Tr.encL ((L ++ M).map (·.2) ++ [l])) h1 ⟨ts, ws, vs', rfl, h2, by rw [e3]; exact h3, by rw [e4]; exact h4⟩
  | _ => cases e
abbrev s_l_doubled : Stmt := top 27
abbrev N_l_doubled : List Str := ["_law_hand_here", "_law_tree", "_law_word", "_law_more"]
theorem sc_l_doubled : FnScope N_l_doubled ["_law_hand_here", "_law_tree"] (defScope s_l_doubled) := ⟨rfl, rfl, rfl, by decide +kernel, rfl, by decide +kernel, by decide +kernel⟩
theorem ok_l_doubled (T : Txt mg) (c_l_draw : Cl P w K mg base 2 "_law_draw" spDraw) (D : At K mg "_law_doubled" s_l_doubled ["_law_hand_here", "_law_tree"]) : Cl P w K mg base 3 "_law_doubled" (spDoub K) := by
  refine cl_of (k := 2) D sc_l_doubled (fun vs H Q E h => ?_) fun f cdv A outer s H vs Q E hr h => ?_
  · obtain ⟨h, c, v, t, rfl, _⟩ := h
    rfl
  · obtain ⟨hn, c, v, t, rfl, hh, hd, o, k⟩ := h
    cases t with
    | mk h ps =>
    obtain ⟨o1, o2, o3⟩ := ok_mk' o
    obtain ⟨a, its, rfl, hs, hx⟩ := view hd
    refine ⟨_, (pss_cons (ps_set (i := 2) sc_l_doubled.nd rfl (Or.inl rfl) (pe_ix ix_tup (pv 1) pe_int (fun _ _ => rfl)))
      (pss_mid (ps_if (PW.pt (pw_and (pt_inW (pv 2) (.cons (.cons (.cons .nil))) (show 3 ≤ sizeLine by decide) (by rfl)) (pw_and (pt_cmpR op_gt (pe_callB call_len_seq (by rfl) T.len (by decide +kernel) (pa_cons (pe_ix ix_tup (pv 1) pe_int (fun _ _ => rfl)) pa_nil)) pe_int (nomark _)) (pw_and (pt_cmpR op_lt (pe_callB call_len_seq (by rfl) T.len (by decide +kernel) (pa_cons (pe_ix ix_tup (pv 1) pe_int (fun _ _ => rfl)) pa_nil)) pe_int (nomark _)) (pw_and1 (pt_cmpR op_eq (pe_c c_l_draw hr (by decide) (by rfl) (pa_cons (pv 0) (pa_cons pe_int pa_nil))) pe_int (nomark _)))))))
        (pss_mid (ps_set (i := 3) sc_l_doubled.nd rfl (Or.inl rfl) (pe_tup (pa_cons (pe_ix ix_tup (pe_ix ix_tup (pv 1) pe_int (fun _ _ => rfl)) (pe_c c_l_draw hr (by decide) (by rfl) (pa_cons (pv 0) (pa_cons (pe_callB call_len_seq (by rfl) T.len (by decide +kernel) (pa_cons (pe_ix ix_tup (pv 1) pe_int (fun _ _ => rfl)) pa_nil)) pa_nil))) (fun _ _ => rfl)) pa_nil)))
        (pss_mid (ps_if (pt_cmpR op_eq (pe_c c_l_draw hr (by decide) (by rfl) (pa_cons (pv 0) (pa_cons pe_int pa_nil))) pe_int (nomark _))
          (pss_one (ps_set (i := 3) sc_l_doubled.nd rfl (Or.inl rfl) (pe_revT (pe_ix ix_tup (pv 1) pe_int (fun _ _ => rfl)))))
          pss_nil)
        (pss_one (ps_ret (pe_op op_catA (pe_tup (pa_cons (pv 2) (pa_cons (pe_op op_catA (pe_ix ix_tup (pv 1) pe_int (fun _ _ => rfl)) (pv 3)) pa_nil))) (pe_slice sl_tupA (pv 1) (po_some pe_int) po_none))))))
        pss_nil)
      (pss_one (ps_ret (pv 1))))), ?_⟩
    refine ⟨_, rfl, a, its, _, _, rfl, rfl, hs, hx.head, ?_⟩
    refine ⟨fun σ' H' => σ' = [some (.ref hn), some (.ref a), some (.str (wd h)), none] ∧ Kh hn H H' ∧ Hand H' hn c, ?_, ?_⟩
    · refine ⟨_, rfl, rfl, fun H1 s1 => ?_⟩
      have k1 := hh.kh s1
      have hh1 := hh.same s1
      rw [in_3 o1]
      cases e3 : is3 h with
      | false => exact iteF (iteF ⟨rfl, k1, hh1⟩)
      | true =>
        obtain ⟨q, us, vs, ds, dl, rfl, hq, hus, fld, hvs, fdl, hfin⟩ := doub_of (K := K) o hx e3
        have hs1 := sqt_same s1 hs
        have hq1 := sqt_same s1 hq
        refine iteT ⟨_, rfl, a, _, _, _, rfl, rfl, hs1, atI_nat (j := 1) rfl, q, us, rfl, .inr hq1, _, _, rfl, rfl, _, rfl, ?_⟩
        refine ite2 (fun hpos => ?_) (fun _ => ⟨rfl, k1, hh1⟩)
        refine ⟨_, rfl, a, _, _, _, rfl, rfl, hs1, atI_nat (j := 1) rfl, q, us, rfl, .inr hq1, _, _, rfl, rfl, _, rfl, ?_⟩
        refine ite2 (fun hlt => ?_) (fun _ => ⟨rfl, k1, hh1⟩)
        have hpos' : 0 < us.length := by
          have := of_decide_eq_true hpos
          omega
        have hlt' : us.length < 3 := by
          have := of_decide_eq_true hlt
          omega
        refine ⟨_, rfl, hn, c, _, rfl, hh1, by decide, by decide, fun n1 H2 _ _ k2 hh2 => ⟨rfl, _, rfl, ?_⟩⟩
        have K2 := k1.trans k2
        refine ite2 (fun _ => ?_) (fun _ => ⟨rfl, K2, hh2⟩)
        have hs2 := K2.tup hs
        have hq2 := K2.tup hq
        have hus2 := dps_keep (fun _ _ q => K2.tup q) _ _ fld hus
        refine ⟨fun σ' H' => ∃ (m : Addr) (ms : List V) (es : List PyData), σ' = [some (.ref hn), some (.ref a), some (.str (wd h)), some (.ref m)] ∧ Kh hn H H' ∧ Hand H' hn c ∧ SqT K H' m ms ∧ DpAll K H' ms es ∧ flatDs es = true ∧ Again ds es, ?_, ?_⟩
        · refine ⟨_, rfl, a, _, _, _, rfl, rfl, hs2, atI_nat (j := 1) rfl, _, rfl, _, rfl, a, _, _, _, rfl, rfl, hs2, atI_nat (j := 1) rfl, q, us, rfl, .inr hq2, hn, c, _, rfl, hh2, by omega, by omega, fun n2 H3 n20 n21 k3 hh3 => ?_⟩
          have K3 := K2.trans k3
          obtain ⟨j, rfl⟩ : ∃ j : Nat, n2 = (j : Int) := ⟨n2.toNat, by omega⟩
          have hj : j < us.length := by omega
          have ej := List.getElem?_eq_getElem hj
          obtain ⟨d, ed, hdj⟩ := DpAll.atV (dps_keep (fun _ _ q => k3.tup q) _ _ fld hus2) ej
          refine ⟨q, _, _, _, rfl, rfl, K3.tup hq, atI_nat ej, by show 1 ≤ sizeLine; decide, fun m hm => ?_⟩
          have s4 := same_new (o := .tup [us[j]]) hm
          have hdm := List.mem_of_getElem? ed
          refine ⟨m, _, [d], rfl, K3.trans (hh3.kh s4), hh3.same s4, .inl (.inl upd_same), .cons (dp_same s4 _ _ hdj) .nil, ?_, .inl ⟨d, hdm, rfl⟩⟩
          have := flatDs_all fld d hdm
          simp [flatDs, this]
        · rintro σ' H4 ⟨m, ms, es, rfl, K4, hh4, hm4, hms4, fle, hag⟩
          refine ⟨fun σ' H' => ∃ (m : Addr) (ms : List V) (es : List PyData), σ' = [some (.ref hn), some (.ref a), some (.str (wd h)), some (.ref m)] ∧ Kh hn H H' ∧ Hand H' hn c ∧ SqT K H' m ms ∧ DpAll K H' ms es ∧ flatDs es = true ∧ Again ds es, ?_, ?_⟩
          · refine ⟨_, rfl, hn, c, _, rfl, hh4, by decide, by decide, fun n1 H5 _ _ k5 hh5 => ⟨rfl, _, rfl, ?_⟩⟩
            have K5 := K4.trans k5
            refine ite2 (fun _ => ?_) (fun _ => ⟨m, ms, es, rfl, K5, hh5, k5.tup hm4, dps_keep (fun _ _ q => k5.tup q) _ _ fle hms4, fle, hag⟩)
            refine ⟨_, rfl, a, _, _, _, rfl, rfl, K5.tup hs, atI_nat (j := 1) rfl, q, us, rfl, K5.tup hq, fun m2 hm2 => ?_⟩
            have s6 := same_new (o := .tup us.reverse) hm2
            refine ⟨m2, _, ds.reverse, rfl, K5.trans (hh5.kh s6), hh5.same s6, .inl (.inl upd_same), DpAll.rev (dps_same s6 _ _ (dps_keep (fun _ _ q => K5.tup q) _ _ fld hus)), ?_, .inr rfl⟩
            exact flatDs_of _ fun d hd => flatDs_all fld d (List.mem_reverse.mp hd)
          · rintro σ' H6 ⟨m, ms, es, rfl, K6, hh6, hm6, hms6, fle, hag⟩
            obtain ⟨t', t1, t2, t3, t4⟩ := hfin hlt' es hag
            have hus6 := dps_keep (fun _ _ q => K6.tup q) _ _ fld hus
            have hml := DpAll.len hms6
            have hul := DpAll.len hus6
            have hal := hag.len
            refine ⟨_, rfl, _, rfl, a, _, _, _, rfl, rfl, K6.tup hs, atI_nat (j := 1) rfl, _, rfl, ?_⟩
            refine cat_any (K6.tup hq) hm6 (Nat.le_trans (show us.length + ms.length ≤ 10 by omega) (by decide)) fun ts H7 s7 hts => ⟨by show 2 ≤ sizeLine; decide, fun t8 ht8 => ?_⟩
            have s8 := same_new (o := .tup [.str (wd h), .ref ts]) ht8
            have s78 := s7.trans s8
            refine ⟨_, rfl, 2, rfl, ?_⟩
            refine sl_from (k := 2) (sqt_same s78 (K6.tup hs)) (by rw [List.length_cons, List.length_cons]; omega) fun t9 H9 s9 ht9 => ?_
            have hvl := DpAll.len hvs
            refine cat_any (sqt_same s9 (.inl (.inl upd_same))) ht9 (Nat.le_trans (show 2 + vs.length ≤ 10 by rw [hvl]; exact (by decide : 2 + 1 ≤ 10)) (by decide)) fun t10 H10 s10 ht10 => ?_
            have S := s78.trans (s9.trans s10)
            refine k _ t' H10 (K6.trans (hh6.kh S)) (hh6.same S) ?_ t1 t2 t3
            refine t4 H10 t10 ts vs (us ++ ms) ht10 (sqt_same (s8.trans (s9.trans s10)) hts) (dps_same S _ _ (DpAll.app hus6 hms6)) (dps_same S _ _ (dps_keep (fun _ _ q => K6.tup q) _ _ ?_ hvs))
            simp [flatDs, fdl]
    · rintro σ' H0 ⟨rfl, k0, hh0⟩
      exact ⟨_, rfl, k _ (.mk h ps) H0 k0 hh0 (dp_keep (fun _ _ q => k0.tup q) _ _ (flat_enc (.mk h ps)) hd) o (Nat.le_refl _) (by omega)⟩
end
end K02

set_option linter.all false
namespace K02
open PySem L2 Cm
/-- a comprehension of changed trees -/
theorem lc_chg {K : PySem.W.Frag} {h c : Addr} {I : It} {n : Nat} {G : Hp → Prop} {Y : Nat → Hp → V → Hp → Prop} (wk : Walk I n G Y) {g : TG} {te : TE} {vs : List Nat} {σ : L2.St} {H1 : Hp} {D : Addr} {Qd : Hp → Prop}
    (N : Nat) (ss : List Tr) (hss : ss.length = n) (F : List Tr → List PyData) (E : Nat → Tr → PyData) (F0 : F [] = []) (FS : ∀ ts t, ts.length < n → F (ts ++ [t]) = F ts ++ [E ts.length t]) (Fl : ∀ ts, flatDs (F ts) = true)
    (hh : Hand H1 h c) (hD : H1 D = Option.none) (hn : n ≤ 100000) (hG : ∀ H, Kh h H1 H → G H)
    (hs : ∀ i x s H H', ss[i]? = some s → Kh h H1 H → Hand H h c → Y i H x H' → ∀ Q1 : VK, (∀ v t H4, Kh h H H4 → Hand H4 h c → Dp K H4 v (E i t) → t.ok → t.dep ≤ s.dep → t.size ≤ N * s.size → Q1 v H4) →
      g x (wipe σ vs) H' fun σ2 H2 => wipe σ2 vs = wipe σ vs ∧ te σ2 H2 Q1)
    (hd : ∀ H acc ts, Kh h H1 H → Hand H h c → H D = some (.lst acc) → DpAll K H acc (F ts) → Chs N ss ts → Qd H) :
    ∃ W : Nat → Nat → Hp → Prop, (∃ m, W 0 m (upd H1 D (.lst []))) ∧ ∀ i m H, W i m H →
      (I.stop i H ∧ Qd H) ∨ (I.go i H ∧ ∃ Nx : Hp → Prop, (∀ H', Nx H' → ∃ m', m' < m ∧ W (i + 1) m' H') ∧ ∀ x H', I.yld i H x H' → g x (wipe σ vs) H' fun σ2 H2 => wipe σ2 vs = wipe σ vs ∧ tYes σ2 H2 fun b H3 =>
        if b = true then te σ2 H3 fun y H4 => ∃ acc, H4 D = some (.lst acc) ∧ acc.length < sizeLine ∧ Nx (upd H4 D (.lst (acc ++ [y]))) else Nx H3) := by
  have nD := hh.there hD
  refine lc_drawJ (K := K) (M := fun a => a = h) wk (fun i ds H => ∃ ts, ds = F ts ∧ Hand H h c ∧ Chs N (ss.take i) ts) (fun a m => by rw [m]; exact hh.lst)
    ⟨[], F0.symm, hh.same (same_new hD), by rw [List.take_zero]; trivial⟩ (fun i ds H ys _ j => ?_) hD hn (fun _ _ H kk _ => hG H kk) (fun i ds H j => ?_) ?_ ?_
  · obtain ⟨ts, a1, a2, a3⟩ := j
    exact ⟨ts, a1, a2.puts nD.1 nD.2, a3⟩
  · obtain ⟨ts, rfl, _⟩ := j
    exact Fl ts
  · rintro i x ds H H' hi kk ⟨ts, rfl, a2, a3⟩ y Q1 Q0 q1 q0
    obtain ⟨s, es⟩ : ∃ s, ss[i]? = some s := ⟨_, List.getElem?_eq_getElem (by omega)⟩
    obtain ⟨et, el⟩ := take_next es
    have hl := a3.len
    rw [el] at hl
    refine hs i x s H H' es kk a2 y Q1 fun v t H4 k4 x4 hv ok dp sz => ?_
    refine q1 v H4 (E i t) k4 ⟨ts ++ [t], ?_, x4, ?_⟩ hv
    · rw [FS ts t (by omega), hl]
    · rw [et]
      exact Chs.snoc ⟨ok, dp, sz⟩ a3
  · rintro H acc ds kk ⟨ts, rfl, a2, a3⟩ hacc ha
    rw [List.take_of_length_le (by omega)] at a3
    exact hd H acc ts kk a2 hacc ha a3
def spChg (K : PySem.W.Frag) (n : Nat) : Sp := fun vs H Q _ => ∃ (h c : Addr) (v : V) (t : Tr), vs = [.ref h, v] ∧ Hand H h c ∧ Dp K H v t.enc ∧ t.ok ∧ t.dep ≤ n ∧
  ∀ (v' : V) (t' : Tr) (H' : Hp), Kh h H H' → Hand H' h c → Dp K H' v' t'.enc → t'.ok → t'.dep ≤ t.dep → t'.size ≤ 2 ^ n * t.size → Q v' H'
def kO (h : Hd) : Bool := kd h == 3
theorem in_O {h : Hd} {n : Nat} (o : hok h n) : inV (.str (wd h)) ((["set", "keep", "once", "take"] : List Str).map V.str) = kO h :=
  by_kind (fun w => inV (.str w) ((["set", "keep", "once", "take"] : List Str).map V.str)) (fun k => k == 3) (by decide +kernel) o
theorem pow_one (n : Nat) : 1 ≤ 2 ^ n := Nat.one_le_two_pow
/-- a form of changed parts -/
theorem chg_fin {n : Nat} {h : Hd} {ps ts : List Tr} (o : (Tr.mk h ps).ok) (x : Chs (2 ^ n) ps ts) : (Tr.mk h ts).ok ∧ (Tr.mk h ts).dep ≤ (Tr.mk h ps).dep ∧ (Tr.mk h ts).size ≤ 2 ^ n * (Tr.mk h ps).size ∧ 2 * (Tr.mk h ts).size ≤ 2 ^ (n + 1) * (Tr.mk h ps).size := by
  have o' : hok h ps.length ∧ ps.length ≤ 11 ∧ Tr.oks ps := o
  have hl := x.len
  have h1 := x.deps
  have h2 := x.sizes
  have h3 := pow_one n
  have h4 : Tr.sizes ts + 1 ≤ 2 ^ n * (Tr.sizes ps + 1) := by rw [Nat.mul_add]; omega
  refine ⟨⟨by rw [hl]; exact o'.1, by rw [hl]; exact o'.2.1, x.oks⟩, ?_, h4, ?_⟩
  · show Tr.deps ts + 1 ≤ Tr.deps ps + 1
    omega
  · show 2 * (Tr.sizes ts + 1) ≤ 2 ^ (n + 1) * (Tr.sizes ps + 1)
    rw [Nat.pow_succ, Nat.mul_comm (2 ^ n) 2, Nat.mul_assoc]
    exact Nat.mul_le_mul_left 2 h4
theorem pow_le {n a b : Nat} (h : a ≤ 2 ^ n * b) : a ≤ 2 ^ (n + 1) * b := by
  rw [Nat.pow_succ, Nat.mul_comm (2 ^ n) 2, Nat.mul_assoc]
  omega
section
variable {P : Program} {w : World} {K : PySem.W.Frag} {mg : Str → Option Value} {base : Heap}
abbrev s_l_changed : Stmt := top 28
abbrev N_l_changed : List Str := ["_law_hand_here", "_law_tree", "_law_word", "_law_rows", "_law_pair", "_law_part"]
theorem sc_l_changed : FnScope N_l_changed ["_law_hand_here", "_law_tree"] (defScope s_l_changed) := ⟨rfl, rfl, rfl, by decide +kernel, rfl, by decide +kernel, by decide +kernel⟩
theorem ok_l_changed (T : Txt mg) (c_l_doubled : Cl P w K mg base 3 "_law_doubled" (spDoub K)) (D : At K mg "_law_changed" s_l_changed ["_law_hand_here", "_law_tree"]) : ∀ n, Cl P w K mg base (n + 4) "_law_changed" (spChg K n) := by
  intro n
  induction n with
  | zero =>
    refine cl_of (k := 3) D sc_l_changed (fun vs H Q E h => ?_) fun f cdv A outer s H vs Q E hr h => ?_
    · obtain ⟨h, c, v, t, rfl, _⟩ := h
      rfl
    · obtain ⟨h, c, v, t, _, _, _, _, z, _⟩ := h
      cases t with
      | mk hd ps => exact absurd z (by show ¬ (Tr.deps ps + 1 ≤ 0); omega)
  | succ n ih =>
    refine cl_of (k := n + 4) D sc_l_changed (fun vs H Q E h => ?_) fun f cdv A outer s H vs Q E hr h => ?_
    · obtain ⟨h, c, v, t, rfl, _⟩ := h
      rfl
    · obtain ⟨hn, c, v, t, rfl, hh, hd, o, hdep, k⟩ := h
      cases t with
      | mk h ps =>
      obtain ⟨o1, o2, o3⟩ := ok_mk' o
      obtain ⟨a, its, rfl, hs, hx⟩ := view hd
      have hdp := dep_mk.mp hdep
      refine ⟨_, (pss_cons (ps_set (i := 2) sc_l_changed.nd rfl (Or.inl rfl) (pe_ix ix_tup (pv 1) pe_int (fun _ _ => rfl)))
      (pss_cons (ps_if (pt_inW (pv 2) (.cons (.cons .nil)) (show 2 ≤ sizeLine by decide) (by rfl))
        (pss_cons (ps_set (i := 3) sc_l_changed.nd rfl (Or.inl rfl) (pe_tupleOf (by rfl) T.tuple (pe_lc (own := [("_law_pair", 4)]) rfl sc_l_changed.nd (pi_tup (pe_ix ix_tup (pv 1) pe_int (fun _ _ => rfl))) (blkOk_by (N := N_l_changed) (sc := defScope s_l_changed) (by decide +kernel))
      (fun _ _ _ _ _ => (pg_name (i := 4) sc_l_changed.nd rfl (Or.inl rfl)))
      (fun _ _ _ _ _ => pts_nil)
      (fun _ _ _ _ _ => (pe_tup (pa_cons (pe_ix (kx_tup (K := K)) (pv 4) pe_int (fun _ _ => rfl)) (pa_cons (pe_c ih hr (by omega) (by rfl) (pa_cons (pv 0) (pa_cons (pe_ix (kx_tup (K := K)) (pv 4) pe_int (fun _ _ => rfl)) pa_nil))) pa_nil)))))))
        (pss_one (ps_ret (pe_c c_l_doubled hr (by omega) (by rfl) (pa_cons (pv 0) (pa_cons (pe_tup (pa_cons (pv 2) (pa_cons (pv 3) (pa_cons (pe_c ih hr (by omega) (by rfl) (pa_cons (pv 0) (pa_cons (pe_ix ix_tup (pv 1) pe_int (fun _ _ => rfl)) pa_nil))) pa_nil)))) pa_nil))))))
        pss_nil)
      (pss_cons (ps_if (pt_cmpR op_eq (pv 2) pe_str (nomark _))
        (pss_one (ps_ret (pe_c c_l_doubled hr (by omega) (by rfl) (pa_cons (pv 0) (pa_cons (pe_tup (pa_cons pe_str (pa_cons (pe_ix ix_tup (pv 1) pe_int (fun _ _ => rfl)) (pa_cons (pe_c ih hr (by omega) (by rfl) (pa_cons (pv 0) (pa_cons (pe_ix ix_tup (pv 1) pe_int (fun _ _ => rfl)) pa_nil))) pa_nil)))) pa_nil)))))
        pss_nil)
      (pss_cons (ps_if (pt_inW (pv 2) (.cons (.cons (.cons (.cons .nil)))) (show 4 ≤ sizeLine by decide) (by rfl))
        (pss_one (ps_ret (pe_tup (pa_cons (pv 2) (pa_cons (pe_ix ix_tup (pv 1) pe_int (fun _ _ => rfl)) (pa_cons (pe_c ih hr (by omega) (by rfl) (pa_cons (pv 0) (pa_cons (pe_ix ix_tup (pv 1) pe_int (fun _ _ => rfl)) pa_nil))) pa_nil))))))
        pss_nil)
      (pss_cons (ps_if (pt_cmpR op_eq (pv 2) pe_str (nomark _))
        (pss_one (ps_ret (pe_tup (pa_cons pe_str (pa_cons (pe_tupleOf (by rfl) T.tuple (pe_lc (own := [("_law_part", 5)]) rfl sc_l_changed.nd (pi_tup (pe_ix ix_tup (pv 1) pe_int (fun _ _ => rfl))) (blkOk_by (N := N_l_changed) (sc := defScope s_l_changed) (by decide +kernel))
      (fun _ _ _ _ _ => (pg_name (i := 5) sc_l_changed.nd rfl (Or.inl rfl)))
      (fun _ _ _ _ _ => pts_nil)
      (fun _ _ _ _ _ => (pe_c ih hr (by omega) (by rfl) (pa_cons (pv 0) (pa_cons (pv 5) pa_nil)))))) pa_nil)))))
        pss_nil)
      (pss_cons (ps_if (pt_cmpR op_eq (pv 2) pe_str (nomark _))
        (pss_one (ps_ret (pe_tup (pa_cons pe_str (pa_cons (pe_c ih hr (by omega) (by rfl) (pa_cons (pv 0) (pa_cons (pe_ix ix_tup (pv 1) pe_int (fun _ _ => rfl)) pa_nil))) (pa_cons (pe_tupleOf (by rfl) T.tuple (pe_lc (own := [("_law_part", 5)]) rfl sc_l_changed.nd (pi_tup (pe_ix ix_tup (pv 1) pe_int (fun _ _ => rfl))) (blkOk_by (N := N_l_changed) (sc := defScope s_l_changed) (by decide +kernel))
      (fun _ _ _ _ _ => (pg_name (i := 5) sc_l_changed.nd rfl (Or.inl rfl)))
      (fun _ _ _ _ _ => pts_nil)
      (fun _ _ _ _ _ => (pe_c ih hr (by omega) (by rfl) (pa_cons (pv 0) (pa_cons (pv 5) pa_nil)))))) pa_nil))))))
        pss_nil)
      (pss_cons (ps_if (pt_cmpR op_eq (pv 2) pe_str (nomark _))
        (pss_one (ps_ret (pe_tup (pa_cons pe_str (pa_cons (pe_ix ix_tup (pv 1) pe_int (fun _ _ => rfl)) (pa_cons (pe_tupleOf (by rfl) T.tuple (pe_lc (own := [("_law_part", 5)]) rfl sc_l_changed.nd (pi_tup (pe_ix ix_tup (pv 1) pe_int (fun _ _ => rfl))) (blkOk_by (N := N_l_changed) (sc := defScope s_l_changed) (by decide +kernel))
      (fun _ _ _ _ _ => (pg_name (i := 5) sc_l_changed.nd rfl (Or.inl rfl)))
      (fun _ _ _ _ _ => pts_nil)
      (fun _ _ _ _ _ => (pe_c ih hr (by omega) (by rfl) (pa_cons (pv 0) (pa_cons (pv 5) pa_nil)))))) pa_nil))))))
        pss_nil)
      (pss_cons (ps_if (pt_inW (pv 2) (.cons (.cons (.cons (.cons .nil)))) (show 4 ≤ sizeLine by decide) (by rfl))
        (pss_one (ps_ret (pe_op op_catA (pe_tup (pa_cons (pv 2) pa_nil)) (pe_tupleOf (by rfl) T.tuple (pe_lc (own := [("_law_part", 5)]) rfl sc_l_changed.nd (pi_tup (pe_slice sl_tupA (pv 1) (po_some pe_int) po_none)) (blkOk_by (N := N_l_changed) (sc := defScope s_l_changed) (by decide +kernel))
      (fun _ _ _ _ _ => (pg_name (i := 5) sc_l_changed.nd rfl (Or.inl rfl)))
      (fun _ _ _ _ _ => pts_nil)
      (fun _ _ _ _ _ => (pe_c ih hr (by omega) (by rfl) (pa_cons (pv 0) (pa_cons (pv 5) pa_nil)))))))))
        pss_nil)
      (pss_one (ps_ret (pv 1))))))))))), ?_⟩
      refine ⟨_, rfl, a, its, _, _, rfl, rfl, hs, hx.head, ?_⟩
      refine ⟨_, rfl, rfl, fun H1 s1 => ?_⟩
      have k1 := hh.kh s1
      have hh1 := hh.same s1
      have hs1 := sqt_same s1 hs
      have hx1 := hx.same s1
      rw [in_B o1]
      cases eB : kB h with
      | true =>
        refine iteT ?_
        cases h with
        | bind w xs =>
          obtain ⟨L, l, rfl, rfl⟩ := rows_of (show ps.length = xs.length + 1 from o1.1)
          obtain ⟨q, rows, vs, rfl, hq, hr1, hv⟩ := hx1
          obtain ⟨e1, e2⟩ := rows_zip L l
          rw [e1] at hr1
          rw [e2] at hv
          have hrl := DpAll.len hr1
          rw [List.length_map] at hrl
          have hLl : L.length ≤ 10 := by
            have := o2
            rw [List.length_append, List.length_map] at this
            simpa using this
          have fl : flatDs (L.map rowT) = true := flatDs_of _ fun d hd => by
            obtain ⟨r, _, rfl⟩ := List.mem_map.mp hd
            simp [rowT, rowD, flatD, flatDs, flat_enc]
          obtain ⟨vl, rfl, hvl⟩ := dpAll_one hv
          refine ⟨_, rfl, a, _, _, _, rfl, rfl, hs1, atI_nat (j := 1) rfl, q, rfl, ⟨_, hq⟩, fun D hD => ?_⟩
          refine lc_chg (K := K) (h := hn) (c := c) (walk_tup (xs := rows)) (2 ^ n) (L.map (·.2)) (by rw [List.length_map, hrl]) (fun ts => rowsL (L.map (·.1)) ts) (fun i t => rowD (((L.map (·.1))[i]?).getD "", t.enc)) (by simp [rowsL, Tr.encL]) (fun ts t hl => rowsL_snoc (by rw [List.length_map]; omega)) (fun ts => rowsL_flat _ ts) hh1 hD (by omega) (fun H k => k.tup hq) ?_ ?_
          · rintro i x s H4 H5 es k5 hh5 ⟨rfl, ex⟩ Q1 q1
            obtain ⟨d, g1, g2⟩ := DpAll.atV hr1 ex
            obtain ⟨r, er, rfl⟩ := map_at g1
            rw [List.getElem?_map, er] at es
            cases es
            obtain ⟨u, its3, rfl, hu3, hi3⟩ := dp_tup (dp_keep (fun _ _ q => k5.tup q) _ _ (flatDs_all fl _ (List.mem_of_getElem? g1)) g2)
            cases hi3 with
            | cons h1 h2 =>
              obtain ⟨v3, rfl, h3⟩ := dpAll_one h2
              have e0 := dp_str h1
              subst e0
              have hrm : r.2 ∈ L.map (·.2) ++ [l] := List.mem_append_left _ (List.mem_map.mpr ⟨r, List.mem_of_getElem? er, rfl⟩)
              refine ⟨rfl, _, rfl, u, _, _, _, rfl, rfl, hu3, atI_nat (j := 0) rfl, _, rfl, _, rfl, u, _, _, _, rfl, rfl, hu3, atI_nat (j := 1) rfl, hn, c, v3, r.2, rfl, hh5, h3, o3 _ hrm, hdp _ hrm, fun v' t' H6 k6 hh6 hv6 ok6 dp6 sz6 => ?_⟩
              refine ⟨by show 2 ≤ sizeLine; decide, fun p hp => ?_⟩
              have s7 := same_new (o := .tup [.str r.1, v']) hp
              refine q1 _ t' _ (k6.trans (hh6.kh s7)) (hh6.same s7) ?_ ok6 dp6 sz6
              have en : ((L.map (fun x => x.1))[i]?).getD (Str.ofString "") = r.1 := by rw [List.getElem?_map, er]; rfl
              rw [en]
              exact .tup (.inl (.inl upd_same)) (.cons (.str _) (.cons (dp_same s7 _ _ hv6) .nil))
          · intro H4 acc ts k4 hh4 hacc ha4 hch
            refine .inl ⟨D, _, rfl, .inl (.inl hacc), fun rt hrt => ?_⟩
            have s5 := same_new (o := .tup acc) hrt
            have k5 := k4.trans (hh4.kh s5)
            have hlm : l ∈ L.map (·.2) ++ [l] := List.mem_append_right _ List.mem_cons_self
            refine ⟨_, rfl, _, rfl, _, rfl, _, rfl, _, rfl, a, _, _, _, rfl, rfl, k5.tup hs1, atI_nat (j := 2) rfl, hn, c, vl, l, rfl, hh4.same s5, dp_keep (fun _ _ q => k5.tup q) _ _ (flat_enc l) hvl, o3 _ hlm, hdp _ hlm, fun vl' tl H6 k6 hh6 hv6 ok6 dp6 sz6 => ?_⟩
            refine ⟨by show 3 ≤ sizeLine; decide, fun p hp => ?_⟩
            have s7 := same_new (o := .tup [.str w, .ref rt, vl']) hp
            have hch2 : Chs (2 ^ n) (L.map (·.2) ++ [l]) (ts ++ [tl]) := Chs.snoc ⟨ok6, dp6, sz6⟩ hch
            obtain ⟨f1, f2, f3, f4⟩ := chg_fin o hch2
            have htl := hch.len
            obtain ⟨z1, z2⟩ := zip_end (xs := L.map (·.1)) (ts := ts) (t := tl) (by rw [htl, List.length_map, List.length_map])
            refine ⟨hn, c, _, .mk (.bind w (L.map (·.1))) (ts ++ [tl]), rfl, hh6.same s7, unview (h := .bind w (L.map (·.1))) (ds := Tr.encL (ts ++ [tl])) (.inl (.inl upd_same)) ⟨rt, acc, [vl'], rfl, sqt_same s7 (k6.tup (.inl (.inl upd_same))), ?_, ?_⟩, f1, fun v' t' H8 k8 hh8 hv8 ok8 dp8 sz8 => ?_⟩
            · rw [z1]
              exact dps_same s7 _ _ (dps_keep (fun _ _ q => k6.tup q) _ _ (rowsL_flat _ ts) (dps_same s5 _ _ ha4))
            · rw [z2]
              exact .cons (dp_same s7 _ _ hv6) .nil
            · exact k v' t' H8 (k1.trans (k5.trans (k6.trans ((hh6.kh s7).trans k8)))) hh8 hv8 ok8 (Nat.le_trans dp8 f2) (Nat.le_trans sz8 f4)
        | _ => cases eB
      | false =>
        refine iteF ?_
        refine ⟨_, rfl, rfl, _, rfl, ?_⟩
        rw [eq_fn o1]
        cases eF : isFn h with
        | true =>
          refine iteT ?_
          cases h with
          | fn xs =>
            obtain ⟨p, rfl⟩ := one_of (show ps.length = 1 from o1.1)
            obtain ⟨q, vs, rfl, hq, hv⟩ := hx1
            obtain ⟨vp, rfl, hvp⟩ := dpAll_one hv
            refine ⟨_, rfl, _, rfl, a, _, _, _, rfl, rfl, hs1, atI_nat (j := 1) rfl, _, rfl, _, rfl, a, _, _, _, rfl, rfl, hs1, atI_nat (j := 2) rfl, hn, c, vp, p, rfl, hh1, hvp, o3 _ List.mem_cons_self, hdp _ List.mem_cons_self, fun v' t' H6 k6 hh6 hv6 ok6 dp6 sz6 => ?_⟩
            refine ⟨by show 3 ≤ sizeLine; decide, fun p2 hp => ?_⟩
            have s7 := same_new (o := .tup [.str "fn", .ref q, v']) hp
            have hch2 : Chs (2 ^ n) [p] [t'] := ⟨⟨ok6, dp6, sz6⟩, trivial⟩
            obtain ⟨f1, f2, f3, f4⟩ := chg_fin o hch2
            refine ⟨hn, c, _, .mk (.fn xs) [t'], rfl, hh6.same s7, unview (h := .fn xs) (ds := [t'.enc]) (.inl (.inl upd_same)) ⟨q, [v'], rfl, sqt_same s7 (k6.tup hq), .cons (dp_same s7 _ _ hv6) .nil⟩, f1, fun v8 t8 H8 k8 hh8 hv8 ok8 dp8 sz8 => ?_⟩
            exact k v8 t8 H8 (k1.trans (k6.trans ((hh6.kh s7).trans k8))) hh8 hv8 ok8 (Nat.le_trans dp8 f2) (Nat.le_trans sz8 f4)
          | _ => cases eF
        | false =>
          refine iteF ?_
          refine ⟨_, rfl, rfl, fun H2 s2 => ?_⟩
          have k2 := k1.trans (hh1.kh s2)
          have hh2 := hh1.same s2
          have hs2 := sqt_same s2 hs1
          have hx2 := hx1.same s2
          rw [in_O o1]
          cases eO : kO h with
          | true =>
            refine iteT ?_
            cases h with
            | one w x =>
              obtain ⟨p, rfl⟩ := one_of (show ps.length = 1 from o1.1)
              obtain ⟨vs, rfl, hv⟩ := hx2
              obtain ⟨vp, rfl, hvp⟩ := dpAll_one hv
              refine ⟨_, rfl, _, rfl, a, _, _, _, rfl, rfl, hs2, atI_nat (j := 1) rfl, _, rfl, _, rfl, a, _, _, _, rfl, rfl, hs2, atI_nat (j := 2) rfl, hn, c, vp, p, rfl, hh2, hvp, o3 _ List.mem_cons_self, hdp _ List.mem_cons_self, fun v' t' H6 k6 hh6 hv6 ok6 dp6 sz6 => ?_⟩
              refine ⟨by show 3 ≤ sizeLine; decide, fun p2 hp => ?_⟩
              have s7 := same_new (o := .tup [.str w, .str x, v']) hp
              have hch2 : Chs (2 ^ n) [p] [t'] := ⟨⟨ok6, dp6, sz6⟩, trivial⟩
              obtain ⟨f1, f2, f3, f4⟩ := chg_fin o hch2
              exact k _ (.mk (.one w x) [t']) _ (k2.trans (k6.trans (hh6.kh s7))) (hh6.same s7) (unview (h := .one w x) (ds := [t'.enc]) (.inl (.inl upd_same)) ⟨[v'], rfl, .cons (dp_same s7 _ _ hv6) .nil⟩) f1 f2 (pow_le f3)
            | _ => cases eO
          | false =>
            refine iteF ?_
            refine ⟨_, rfl, rfl, _, rfl, ?_⟩
            rw [eq_do o1]
            cases eD : isDo h with
            | true =>
              refine iteT ?_
              cases h with
              | doo =>
                obtain ⟨q, vs, rfl, hq, hv⟩ := hx2
                have hvl := DpAll.len hv
                rw [encL_len] at hvl
                refine ⟨_, rfl, a, _, _, _, rfl, rfl, hs2, atI_nat (j := 1) rfl, q, rfl, ⟨_, hq⟩, fun D hD => ?_⟩
                refine lc_chg (K := K) (h := hn) (c := c) (walk_tup (xs := vs)) (2 ^ n) ps hvl.symm Tr.encL (fun _ t => t.enc) rfl (fun ts t _ => encL_snoc t ts) flat_encL hh2 hD (by omega) (fun H k => k.tup hq) ?_ ?_
                · rintro i x s H4 H5 es k5 hh5 ⟨rfl, ex⟩ Q1 q1
                  obtain ⟨d, g1, g2⟩ := DpAll.atV hv ex
                  obtain ⟨c2, ec, rfl⟩ := encL_at' g1
                  rw [ec] at es
                  cases es
                  have hcm := List.mem_of_getElem? ec
                  exact ⟨rfl, _, rfl, _, rfl, hn, c, _, s, rfl, hh5, dp_keep (fun _ _ q => k5.tup q) _ _ (flat_enc s) g2, o3 _ hcm, hdp _ hcm, fun v' t' H6 k6 hh6 hv6 ok6 dp6 sz6 => q1 v' t' H6 k6 hh6 hv6 ok6 dp6 sz6⟩
                · intro H4 acc ts k4 hh4 hacc ha4 hch
                  refine .inl ⟨D, _, rfl, .inl (.inl hacc), fun rt hrt => ⟨by show 2 ≤ sizeLine; decide, fun p hp => ?_⟩⟩
                  have s5 := same_new (o := .tup acc) hrt
                  have s6 := same_new (o := .tup [.str "do", .ref rt]) hp
                  obtain ⟨f1, f2, f3, f4⟩ := chg_fin o hch
                  exact k _ (.mk .doo ts) _ (k2.trans (k4.trans (hh4.kh (s5.trans s6)))) (hh4.same (s5.trans s6)) (unview (h := .doo) (ds := Tr.encL ts) (.inl (.inl upd_same)) ⟨rt, acc, rfl, sqt_same s6 (.inl (.inl upd_same)), dps_same (s5.trans s6) _ _ ha4⟩) f1 f2 (pow_le f3)
              | _ => cases eD
            | false =>
              refine iteF ?_
              refine ⟨_, rfl, rfl, _, rfl, ?_⟩
              rw [eq_call o1]
              cases eC : isCall h with
              | true =>
                refine iteT ?_
                cases h with
                | call =>
                  obtain ⟨q, us, vs, rfl, hu, hq, hv⟩ := hx2
                  obtain ⟨p, ps, rfl⟩ : ∃ p ps', ps = p :: ps' := by
                    cases ps with
                    | nil => exact absurd (show 1 ≤ 0 from o1) (by decide)
                    | cons p ps' => exact ⟨p, ps', rfl⟩
                  obtain ⟨u0, rfl, hu0⟩ := dpAll_one (show DpAll K H2 us [p.enc] from hu)
                  have hv' : DpAll K H2 vs (Tr.encL ps) := hv
                  have hvl := DpAll.len hv'
                  rw [encL_len] at hvl
                  have hpl : ps.length ≤ 10 := by simpa using o2
                  refine ⟨_, rfl, _, rfl, a, _, _, _, rfl, rfl, hs2, atI_nat (j := 1) rfl, hn, c, u0, p, rfl, hh2, hu0, o3 _ List.mem_cons_self, hdp _ List.mem_cons_self, fun v' t' H6 k6 hh6 hv6 ok6 dp6 sz6 => ?_⟩
                  refine ⟨_, rfl, a, _, _, _, rfl, rfl, k6.tup hs2, atI_nat (j := 2) rfl, q, rfl, ⟨_, k6.tup hq⟩, fun D hD => ?_⟩
                  have hv6' := dps_keep (fun _ _ q => k6.tup q) _ _ (flat_encL ps) hv'
                  refine lc_chg (K := K) (h := hn) (c := c) (walk_tup (xs := vs)) (2 ^ n) ps hvl.symm Tr.encL (fun _ t => t.enc) rfl (fun ts t _ => encL_snoc t ts) flat_encL hh6 hD (by omega) (fun H k => k.tup (k6.tup hq)) ?_ ?_
                  · rintro i x s H4 H5 es k5 hh5 ⟨rfl, ex⟩ Q1 q1
                    obtain ⟨d, g1, g2⟩ := DpAll.atV hv6' ex
                    obtain ⟨c2, ec, rfl⟩ := encL_at' g1
                    rw [ec] at es
                    cases es
                    have hcm := List.mem_cons_of_mem p (List.mem_of_getElem? ec)
                    exact ⟨rfl, _, rfl, _, rfl, hn, c, _, s, rfl, hh5, dp_keep (fun _ _ q => k5.tup q) _ _ (flat_enc s) g2, o3 _ hcm, hdp _ hcm, fun v' t' H6 k6 hh6 hv6 ok6 dp6 sz6 => q1 v' t' H6 k6 hh6 hv6 ok6 dp6 sz6⟩
                  · intro H4 acc ts k4 hh4 hacc ha4 hch
                    refine .inl ⟨D, _, rfl, .inl (.inl hacc), fun rt hrt => ⟨by show 3 ≤ sizeLine; decide, fun p2 hp => ?_⟩⟩
                    have s5 := same_new (o := .tup acc) hrt
                    have s6 := same_new (o := .tup [.str "call", v', .ref rt]) hp
                    have hch2 : Chs (2 ^ n) (p :: ps) (t' :: ts) := ⟨⟨ok6, dp6, sz6⟩, hch⟩
                    obtain ⟨f1, f2, f3, f4⟩ := chg_fin o hch2
                    have hv7 := dp_same (s5.trans s6) _ _ (dp_keep (fun _ _ q => k4.tup q) _ _ (flat_enc t') hv6)
                    exact k _ (.mk .call (t' :: ts)) _ (k2.trans (k6.trans (k4.trans (hh4.kh (s5.trans s6))))) (hh4.same (s5.trans s6)) (unview (h := .call) (ds := Tr.encL (t' :: ts)) (.inl (.inl upd_same)) ⟨rt, [v'], acc, rfl, .cons hv7 .nil, sqt_same s6 (.inl (.inl upd_same)), dps_same (s5.trans s6) _ _ ha4⟩) f1 f2 (pow_le f3)
                | _ => cases eC
              | false =>
                refine iteF ?_
                refine ⟨_, rfl, rfl, _, rfl, ?_⟩
                rw [eq_op o1]
                cases eP : isOp h with
                | true =>
                  refine iteT ?_
                  cases h with
                  | op o' =>
                    obtain ⟨q, vs, rfl, hq, hv⟩ := hx2
                    have hvl := DpAll.len hv
                    rw [encL_len] at hvl
                    refine ⟨_, rfl, a, _, _, _, rfl, rfl, hs2, atI_nat (j := 1) rfl, _, rfl, a, _, _, _, rfl, rfl, hs2, atI_nat (j := 2) rfl, q, rfl, ⟨_, hq⟩, fun D hD => ?_⟩
                    refine lc_chg (K := K) (h := hn) (c := c) (walk_tup (xs := vs)) (2 ^ n) ps hvl.symm Tr.encL (fun _ t => t.enc) rfl (fun ts t _ => encL_snoc t ts) flat_encL hh2 hD (by omega) (fun H k => k.tup hq) ?_ ?_
                    · rintro i x s H4 H5 es k5 hh5 ⟨rfl, ex⟩ Q1 q1
                      obtain ⟨d, g1, g2⟩ := DpAll.atV hv ex
                      obtain ⟨c2, ec, rfl⟩ := encL_at' g1
                      rw [ec] at es
                      cases es
                      have hcm := List.mem_of_getElem? ec
                      exact ⟨rfl, _, rfl, _, rfl, hn, c, _, s, rfl, hh5, dp_keep (fun _ _ q => k5.tup q) _ _ (flat_enc s) g2, o3 _ hcm, hdp _ hcm, fun v' t' H6 k6 hh6 hv6 ok6 dp6 sz6 => q1 v' t' H6 k6 hh6 hv6 ok6 dp6 sz6⟩
                    · intro H4 acc ts k4 hh4 hacc ha4 hch
                      refine .inl ⟨D, _, rfl, .inl (.inl hacc), fun rt hrt => ⟨by show 3 ≤ sizeLine; decide, fun p hp => ?_⟩⟩
                      have s5 := same_new (o := .tup acc) hrt
                      have s6 := same_new (o := .tup [.str "op", .str o', .ref rt]) hp
                      obtain ⟨f1, f2, f3, f4⟩ := chg_fin o hch
                      exact k _ (.mk (.op o') ts) _ (k2.trans (k4.trans (hh4.kh (s5.trans s6)))) (hh4.same (s5.trans s6)) (unview (h := .op o') (ds := Tr.encL ts) (.inl (.inl upd_same)) ⟨rt, acc, rfl, sqt_same s6 (.inl (.inl upd_same)), dps_same (s5.trans s6) _ _ ha4⟩) f1 f2 (pow_le f3)
                  | _ => cases eP
                | false =>
                  refine iteF ?_
                  refine ⟨_, rfl, rfl, fun H3 s3 => ?_⟩
                  have k3 := k2.trans (hh2.kh s3)
                  have hh3 := hh2.same s3
                  have hs3 := sqt_same s3 hs2
                  have hx3 := hx2.same s3
                  rw [in_P o1]
                  cases eP2 : kP h with
                  | true =>
                    refine iteT ?_
                    cases h with
                    | plain w =>
                      obtain ⟨vs, rfl, hv⟩ := hx3
                      have hvl := DpAll.len hv
                      rw [encL_len] at hvl
                      refine ⟨_, rfl, by show 1 ≤ sizeLine; decide, fun t0 ht0 => ?_⟩
                      have s4 := same_new (o := .tup [.str w]) ht0
                      have hh4 := hh3.same s4
                      refine ⟨_, rfl, 1, rfl, ?_⟩
                      refine sl_from (k := 1) (sqt_same s4 hs3) (by rw [List.length_cons]; omega) fun t5 H5 s5 ht5 => ?_
                      have hv5 := dps_same (s4.trans s5) _ _ hv
                      have hh5 := hh4.same s5
                      have hts : SqT K H5 t5 vs := ht5
                      refine ⟨t5, rfl, ⟨_, hts⟩, fun D hD => ?_⟩
                      refine lc_chg (K := K) (h := hn) (c := c) (walk_tup (xs := vs)) (2 ^ n) ps hvl.symm Tr.encL (fun _ t => t.enc) rfl (fun ts t _ => encL_snoc t ts) flat_encL hh5 hD (by omega) (fun H k => k.tup hts) ?_ ?_
                      · rintro i x s H6 H7 es k7 hh7 ⟨rfl, ex⟩ Q1 q1
                        obtain ⟨d, g1, g2⟩ := DpAll.atV hv5 ex
                        obtain ⟨c2, ec, rfl⟩ := encL_at' g1
                        rw [ec] at es
                        cases es
                        have hcm := List.mem_of_getElem? ec
                        exact ⟨rfl, _, rfl, _, rfl, hn, c, _, s, rfl, hh7, dp_keep (fun _ _ q => k7.tup q) _ _ (flat_enc s) g2, o3 _ hcm, hdp _ hcm, fun v' t' H6 k6 hh6 hv6 ok6 dp6 sz6 => q1 v' t' H6 k6 hh6 hv6 ok6 dp6 sz6⟩
                      · intro H6 acc ts k6 hh6 hacc ha6 hch
                        have hal := DpAll.len ha6
                        rw [encL_len] at hal
                        have hcl := hch.len
                        refine .inl ⟨D, _, rfl, .inl (.inl hacc), fun rt hrt => ?_⟩
                        have s7 := same_new (o := .tup acc) hrt
                        refine cat_any (sqt_same s7 (k6.tup (sqt_same s5 (.inl (.inl upd_same))))) (.inl (.inl upd_same)) (Nat.le_trans (show 1 + acc.length ≤ 200 by omega) (by decide)) fun t8 H8 s8 ht8 => ?_
                        obtain ⟨f1, f2, f3, f4⟩ := chg_fin o hch
                        exact k _ (.mk (.plain w) ts) H8 (k3.trans ((hh3.kh (s4.trans s5)).trans (k6.trans (hh6.kh (s7.trans s8))))) (hh6.same (s7.trans s8)) (unview (h := .plain w) (ds := Tr.encL ts) ht8 ⟨acc, rfl, dps_same (s7.trans s8) _ _ ha6⟩) f1 f2 (pow_le f3)
                    | _ => cases eP2
                  | false =>
                    refine iteF ⟨_, rfl, ?_⟩
                    refine k _ (.mk h ps) H3 k3 hh3 (dp_keep (fun _ _ q => k3.tup q) _ _ (flat_enc (.mk h ps)) hd) o (Nat.le_refl _) ?_
                    have := pow_one (n + 1)
                    exact Nat.le_trans (Nat.le_of_eq (Nat.one_mul _).symm) (Nat.mul_le_mul_right _ this)
end
end K02

set_option linter.all false
namespace K02
open PySem L2 Cm
def spLaw (K : PySem.W.Frag) : Sp := fun vs H Q _ => ∃ (a : Addr) (ns : List Int), vs = [.ref a] ∧ SqL K H a (ns.map V.int) ∧ ns.length ≤ 63 ∧ ∀ H', Q (.bl true) H'
structure Calls (P : Program) (w : World) (K : PySem.W.Frag) (mg : Str → Option Value) (base : Heap) : Prop where
  hand : Cl P w K mg base 1 "_law_hand" (spHand K)
  draw : Cl P w K mg base 2 "_law_draw" spDraw
  any : Cl P w K mg base 17 "_law_any" (spAny K 6)
  chg : Cl P w K mg base 15 "_law_changed" (spChg K 11)
  frees : Cl P w K mg base 16 "free_names" (spNames2 K false)
  sets : Cl P w K mg base 16 "set_names" (spNames2 K true)
  free : Cl P w K mg base 14 "_law_free" (spFree K 12)
  unl : Cl P w K mg base 1 "_law_unlike" (spUnlike K)
  told : Cl P w K mg base 18 "_law_told" (spTold K)
  first : Cl P w K mg base 14 "_law_first_wrong" (spFirst K 12)
def oneT : Tr := .mk (.num 1) []
def recT : Tr := .mk (.bind "rec" ["f"]) [.mk (.fn []) [.mk .call [.mk (.name "f") []]], .mk (.name "f") []]
def fourS : List Str := ["a", "b", "c", "d"]
theorem four_sok : ∀ x ∈ fourS, sok x := by
  intro x hx
  simp only [fourS, List.mem_cons, List.not_mem_nil, or_false] at hx
  rcases hx with rfl | rfl | rfl | rfl <;> decide +kernel
theorem rec_ok : recT.ok := by
  refine ⟨⟨rfl, by decide +kernel, ?_⟩, by show 2 ≤ 11; decide, ⟨⟨rfl, by show 0 ≤ 100; decide, fun _ m => by cases m⟩, by show 1 ≤ 11; decide, ⟨⟨(show 1 ≤ 1 from Nat.le_refl _), by show 1 ≤ 11; decide, ⟨⟨rfl, by decide +kernel⟩, by show 0 ≤ 11; decide, trivial⟩, trivial⟩, trivial⟩⟩, ⟨⟨rfl, by decide +kernel⟩, by show 0 ≤ 11; decide, trivial⟩, trivial⟩
  intro x hx
  rw [List.mem_singleton.mp hx]
  decide +kernel
theorem lay_wr {o : Option (Str × Str)} (h : ∀ e, o = some e → sok e.1 ∧ sok e.2) : Lay 2 (wrD o) := by
  cases o with
  | none => exact ⟨rfl, by show PyData.depth .none ≤ 2; simp [PyData.depth]⟩
  | some e =>
    obtain ⟨h1, h2⟩ := h e rfl
    refine Lay.tup fun d hd => ?_
    simp only [List.mem_cons, List.not_mem_nil, or_false] at hd
    rcases hd with rfl | rfl
    · exact .str h1 1
    · exact .str h2 1
/-- a tree that the law asks of -/
structure Good (t : Tr) : Prop where
  ok : t.ok
  dp : t.dep ≤ 12
  sz : t.size ≤ 10000000
section
variable {P : Program} {w : World} {K : PySem.W.Frag} {mg : Str → Option Value} {base : Heap}
abbrev s_law : Stmt := top 30
abbrev N_law : List Str := ["_law_script", "_law_hand_here", "_law_names", "_law_tree", "_law_around", "_law_name", "_law_one"]
theorem sc_law : FnScope N_law ["_law_script"] (defScope s_law) := ⟨rfl, rfl, rfl, by decide +kernel, rfl, by decide +kernel, by decide +kernel⟩
theorem ok_law {f : Addr} {fd : FuncData} (T : Txt mg) (C : Calls P w K mg base) (F : Fun K "law" "law" s_law f fd) : LawAt P w K mg base 19 f fd ["_law_script"] (spLaw K) := by
  refine lawAt_of F sc_law (fun vs H Q E h => ?_) fun cdv A outer s H vs Q E hgd hr h => ?_
  · obtain ⟨a, ns, rfl, _⟩ := h
    rfl
  · obtain ⟨a, ns, rfl, hS, hlen, k⟩ := h
    refine ⟨_, (pss_cons (ps_set (i := 1) sc_law.nd rfl (Or.inl rfl) (pe_c C.hand hr (by decide) (by rfl) (pa_cons (pv 0) pa_nil)))
      (pss_cons (ps_set (i := 2) sc_law.nd rfl (Or.inl rfl) (pe_slice sl_tupA (pe_tup (pa_cons pe_str (pa_cons pe_str (pa_cons pe_str (pa_cons pe_str pa_nil))))) po_none (po_some (pe_op op_add pe_int (pe_c C.draw hr (by decide) (by rfl) (pa_cons (pv 1) (pa_cons pe_int pa_nil)))))))
      (pss_mid (ps_set (i := 3) sc_law.nd rfl (Or.inl rfl) (pe_c C.any hr (by decide) (by rfl) (pa_cons (pv 1) (pa_cons pe_int (pa_cons (pv 2) (pa_cons (pe_lst (pa_cons pe_int pa_nil)) pa_nil))))))
      (pss_mid (ps_if (pt_cmpR op_eq (pe_c C.draw hr (by decide) (by rfl) (pa_cons (pv 1) (pa_cons pe_int pa_nil))) pe_int (nomark _))
        (pss_one (ps_set (i := 3) sc_law.nd rfl (Or.inl rfl) (pe_c C.chg hr (by decide) (by rfl) (pa_cons (pv 1) (pa_cons (pv 3) pa_nil)))))
        pss_nil)
      (pss_mid (ps_set (i := 4) sc_law.nd rfl (Or.inl rfl) (pe_tup (pa_cons pe_str (pa_cons (pe_tupleOf (by rfl) T.tuple (pe_lc (own := [("_law_name", 5)]) rfl sc_law.nd (pi_tup (pv 2)) (blkOk_by (N := N_law) (sc := defScope s_law) (by decide +kernel))
      (fun _ _ _ _ _ => (pg_name (i := 5) sc_law.nd rfl (Or.inl rfl)))
      (fun _ _ _ _ _ => pts_nil)
      (fun _ _ _ _ _ => (pe_tup (pa_cons (pv 5) (pa_cons (pe_tup (pa_cons pe_str (pa_cons pe_int pa_nil))) pa_nil)))))) (pa_cons (pv 3) pa_nil)))))
      (pss_cons (ps_for PassesOwn.never rfl (pi_list (pe_lst (pa_cons (pv 3) (pa_cons (pv 4) (pa_cons (pe_tup (pa_cons pe_str (pa_cons (pe_slice sl_tupA (pv 2) po_none (po_some pe_int)) (pa_cons (pv 3) pa_nil)))) (pa_cons (pe_tup (pa_cons pe_str (pa_cons (pe_tup (pa_cons (pv 3) (pa_cons (pe_tup (pa_cons pe_str (pa_cons pe_str pa_nil))) pa_nil))) pa_nil))) pa_nil)))))) (pg_name (i := 6) sc_law.nd rfl (Or.inl rfl))
        (pss_mid (ps_if (PW.pt (pw_or (pt_cmpR (op_neD hr.units) (pe_c C.frees hr (by decide) (by rfl) (pa_cons (pv 6) pa_nil)) (pe_c C.unl hr (by decide) (by rfl) (pa_cons (pe_c C.free hr (by decide) (by rfl) (pa_cons (pv 6) (pa_cons pe_bl pa_nil))) pa_nil)) (nomark _)) (pw_or1 (pt_cmpR (op_neD hr.units) (pe_c C.sets hr (by decide) (by rfl) (pa_cons (pv 6) pa_nil)) (pe_c C.unl hr (by decide) (by rfl) (pa_cons (pe_c C.free hr (by decide) (by rfl) (pa_cons (pv 6) (pa_cons pe_bl pa_nil))) pa_nil)) (nomark _)))))
          (pss_one (ps_ret pe_bl))
          pss_nil)
        (pss_one (ps_if (pt_cmpR (op_neD hr.units) (pe_c C.told hr (by decide) (by rfl) (pa_cons (pv 6) pa_nil)) (pe_c C.first hr (by decide) (by rfl) (pa_cons (pv 6) (pa_cons (pe_lst pa_nil) pa_nil))) (nomark _))
          (pss_one (ps_ret pe_bl))
          pss_nil))))
      (pss_one (ps_ret (pe_cmpR op_isN (pe_c C.told hr (by decide) (by rfl) (pa_cons (pe_tup (pa_cons pe_str (pa_cons (pe_tup (pa_cons (pe_tup (pa_cons pe_str (pa_cons (pe_tup (pa_cons pe_str (pa_cons (pe_tup pa_nil) (pa_cons (pe_tup (pa_cons pe_str (pa_cons (pe_tup (pa_cons pe_str (pa_cons pe_str pa_nil))) (pa_cons (pe_tup pa_nil) pa_nil)))) pa_nil)))) pa_nil))) pa_nil)) (pa_cons (pe_tup (pa_cons pe_str (pa_cons pe_str pa_nil))) pa_nil)))) pa_nil)) pe_non (nomark _)))))))))), ?_⟩
    refine ⟨_, rfl, a, ns, rfl, hS, hlen, fun h c H1 _ _ _ hh1 => ?_⟩
    refine ⟨by show 4 ≤ sizeLine; decide, fun t0 ht0 => ?_⟩
    have s2 := same_new (o := .tup [.str "a", .str "b", .str "c", .str "d"]) ht0
    have hh2 := hh1.same s2
    have ht2 : SqT K (upd H1 t0 (.tup [.str "a", .str "b", .str "c", .str "d"])) t0 (fourS.map V.str) := .inl (.inl upd_same)
    generalize upd H1 t0 (.tup [.str "a", .str "b", .str "c", .str "d"]) = H2 at *
    refine ⟨_, rfl, h, c, _, rfl, hh2, by decide, by decide, fun n1 H3 n10 n11 k3 hh3 => ?_⟩
    obtain ⟨j, rfl⟩ : ∃ j : Nat, n1 = (j : Int) := ⟨n1.toNat, by omega⟩
    refine ⟨_, _, rfl, rfl, _, rfl, ?_⟩
    have e1j : (1 : Int) + (j : Int) = ((1 + j : Nat) : Int) := by omega
    rw [e1j]
    refine sl_to (k := 1 + j) (k3.tup ht2) (by show 1 + j ≤ 4; omega) fun nm H4 s4 hnm => ?_
    rw [← List.map_take] at hnm
    have hh4 := hh3.same s4
    have hn1 : (fourS.take (1 + j)).length = 1 + j := by rw [List.length_take]; show min (1 + j) 4 = 1 + j; omega
    have hn2 : ∀ x ∈ fourS.take (1 + j), sok x := fun x m => four_sok x (List.mem_of_mem_take m)
    generalize fourS.take (1 + j) = names at *
    refine ⟨fun σ' H' => ∃ (v : V) (t : Tr), σ' = [some (.ref a), some (.ref h), some (.ref nm), some v, none, none, none] ∧ Hand H' h c ∧ SqT K H' nm (names.map V.str) ∧ Dp K H' v t.enc ∧ t.ok ∧ t.dep ≤ 11 ∧ t.size ≤ 193, ?_, ?_⟩
    · refine ⟨_, rfl, _, rfl, by show 1 ≤ sizeLine; decide, fun rm hrm => ?_⟩
      have s5 := same_new (o := .lst [.int 16]) hrm
      have nD := hh4.there hrm
      refine ⟨h, c, nm, rm, names, 16, 5, rfl, ⟨hh4.same s5, upd_same, nD.1, nD.2⟩, sqt_same s5 hnm, (fun z => by rw [z] at hn1; have : 0 = 1 + j := hn1; omega), by omega, hn2, by decide, fun v t k' H6 kr6 x6 hv ok dp sz => ?_⟩
      exact ⟨v, t, rfl, x6.hand, kr6.tup (sqt_same s5 hnm), hv, ok, dp, by omega⟩
    rintro σ' H5 ⟨v, t, rfl, hh5, hnm5, hv5, ok5, dp5, sz5⟩
    refine ⟨fun σ' H' => ∃ (v : V) (t : Tr), σ' = [some (.ref a), some (.ref h), some (.ref nm), some v, none, none, none] ∧ SqT K H' nm (names.map V.str) ∧ Dp K H' v t.enc ∧ t.ok ∧ t.dep ≤ 11 ∧ t.size ≤ 400000, ?_, ?_⟩
    · refine ⟨_, rfl, h, c, _, rfl, hh5, by decide, by decide, fun n1 H6 _ _ k6 hh6 => ⟨rfl, _, rfl, ?_⟩⟩
      have hv6 := dp_keep (fun _ _ q => k6.tup q) _ _ (flat_enc t) hv5
      refine ite2 (fun _ => ?_) (fun _ => ⟨v, t, rfl, k6.tup hnm5, hv6, ok5, dp5, by omega⟩)
      refine ⟨_, rfl, _, rfl, h, c, v, t, rfl, hh6, hv6, ok5, dp5, fun v' t' H7 k7 hh7 hv7 ok7 dp7 sz7 => ?_⟩
      exact ⟨v', t', rfl, k7.tup (k6.tup hnm5), hv7, ok7, by omega, by
        have e : (2 : Nat) ^ 11 = 2048 := by decide
        rw [e] at sz7
        omega⟩
    clear hv5 ok5 dp5 sz5 hnm5 hh5
    clear v t
    rintro σ' H6 ⟨v, t, rfl, hnm6, hv6, ok6, dp6, sz6⟩
    refine ⟨fun σ' H' => ∃ (ar : V) (ta : Tr), σ' = [some (.ref a), some (.ref h), some (.ref nm), some v, some ar, none, none] ∧ Same H6 H' ∧ Dp K H' ar ta.enc ∧ Good ta, ?_, ?_⟩
    · refine ⟨_, rfl, nm, rfl, ⟨_, hnm6⟩, fun L hL => ?_⟩
      refine lc_data (K := K) (walk_tup (xs := names.map V.str)) (fun i => (names[i]?).map fun x => rowT (x, oneT)) hL (by rw [List.length_map]; omega) (fun H' s => sqt_same s hnm6) (fun i _ d e => ?_) ?_ ?_
      · obtain ⟨x, _, rfl⟩ := Option.map_eq_some_iff.mp e
        simp [rowT, rowD, flatD, flatDs, flat_enc]
      · rintro i x H7 H8 hi s7 ⟨rfl, e2⟩ Q1 Q0 q1 q0
        obtain ⟨y, ey, rfl⟩ := map_at e2
        refine ⟨rfl, _, rfl, by show 2 ≤ sizeLine; decide, fun p1 hp1 => ⟨by show 2 ≤ sizeLine; decide, fun p2 hp2 => ?_⟩⟩
        have s8 := same_new (o := .tup [.str "number", .int 1]) hp1
        have s9 := same_new (o := .tup [.str y, .ref p1]) hp2
        refine q1 _ _ (rowT (y, oneT)) (by rw [ey]; rfl) (s8.trans s9) ?_
        exact .tup (.inl (.inl upd_same)) (.cons (.str _) (.cons (.tup (sqt_same s9 (.inl (.inl upd_same))) (.cons (.str _) (.cons (.int _) .nil))) .nil))
      · intro H7 acc s7 hacc ha7
        rw [List.length_map, range_map] at ha7
        refine .inl ⟨L, _, rfl, .inl (.inl hacc), fun rt hrt => ?_⟩
        have s8 := same_new (o := .tup acc) hrt
        refine ⟨_, rfl, by show 3 ≤ sizeLine; decide, fun p hp => ?_⟩
        have s9 := same_new (o := .tup [.str "let", .ref rt, v]) hp
        have hl : (names.map fun x => (x, oneT)).map (fun r => r.1) = names := by rw [List.map_map]; exact List.map_id names
        have hl2 : (names.map fun x => (x, oneT)).map (fun r => r.2) = names.map fun _ => oneT := by rw [List.map_map]; rfl
        obtain ⟨z1, z2⟩ := rows_zip (names.map fun x => (x, oneT)) t
        rw [hl] at z1 z2
        have hsz : ∀ m : List Str, Tr.sizes (m.map fun _ => oneT) = m.length := fun m => by
          induction m with
          | nil => rfl
          | cons x m ih =>
            show oneT.size + Tr.sizes (m.map fun _ => oneT) = m.length + 1
            rw [ih]
            show 1 + m.length = m.length + 1
            omega
        refine ⟨.ref p, .mk (.bind "let" names) ((names.map fun x => (x, oneT)).map (fun r => r.2) ++ [t]), rfl, (s7.trans s8).trans s9, unview (h := .bind "let" names) (ds := Tr.encL ((names.map fun x => (x, oneT)).map (fun r => r.2) ++ [t])) (.inl (.inl upd_same)) ⟨rt, acc, [v], rfl, sqt_same s9 (.inl (.inl upd_same)), ?_, ?_⟩, ?_, ?_, ?_⟩
        · rw [z1, List.map_map]
          exact dps_same (s8.trans s9) _ _ ha7
        · rw [z2]
          exact .cons (dp_same ((s7.trans s8).trans s9) _ _ hv6) .nil
        · refine ⟨⟨by rw [List.length_append, List.length_map, List.length_map]; rfl, by decide +kernel, hn2⟩, by rw [List.length_append, List.length_map, List.length_map]; show names.length + 1 ≤ 11; omega, oks_iff.mpr fun u hu => ?_⟩
          rcases List.mem_append.mp hu with m | m
          · rw [hl2] at m
            obtain ⟨x, _, rfl⟩ := List.mem_map.mp m
            exact ⟨rfl, by show 0 ≤ 11; decide, trivial⟩
          · rw [List.mem_singleton.mp m]
            exact ok6
        · refine (dep_mk (n := 11)).mpr fun u hu => ?_
          rcases List.mem_append.mp hu with m | m
          · rw [hl2] at m
            obtain ⟨x, _, rfl⟩ := List.mem_map.mp m
            show 1 ≤ 11
            decide
          · rw [List.mem_singleton.mp m]
            exact dp6
        · show Tr.sizes (_ ++ [t]) + 1 ≤ _
          rw [hl2, sizes_app, hsz]
          show names.length + (t.size + 0) + 1 ≤ _
          omega
    rintro σ' H7 ⟨ar, ta, rfl, s7, har, gta⟩
    -- the four trees
    refine ⟨_, rfl, _, rfl, _, rfl, 1, rfl, ?_⟩
    refine sl_to (k := 1) (sqt_same s7 hnm6) (by rw [List.length_map]; omega) fun n1 H8 s8 hn18 => ?_
    rw [← List.map_take] at hn18
    refine ⟨_, rfl, by show 3 ≤ sizeLine; decide, fun p3 hp3 => ?_⟩
    have s9 := same_new (o := .tup [.str "fn", .ref n1, v]) hp3
    have hn19 := sqt_same s9 hn18
    have S9 := s7.trans (s8.trans s9)
    have e3 : SqT K (upd H8 p3 (.tup [.str "fn", .ref n1, v])) p3 [.str "fn", .ref n1, v] := .inl (.inl upd_same)
    have hv9 := dp_same S9 _ _ hv6
    have har9 := dp_same (s8.trans s9) _ _ har
    have d3 : Dp K _ (.ref p3) (Tr.mk (.fn (names.take 1)) [t]).enc := unview (h := .fn (names.take 1)) (ds := [t.enc]) e3 ⟨n1, [v], rfl, hn19, .cons hv9 .nil⟩
    have g3 : Good (.mk (.fn (names.take 1)) [t]) := ⟨⟨⟨rfl, by rw [List.length_take]; omega, fun x m => hn2 x (List.mem_of_mem_take m)⟩, by show 1 ≤ 11; decide, ok6, trivial⟩, (dep_mk (n := 11)).mpr fun u hu => by rw [List.mem_singleton.mp hu]; exact dp6, by show t.size + 0 + 1 ≤ _; omega⟩
    generalize upd H8 p3 (.tup [.str "fn", .ref n1, v]) = H9 at *
    refine ⟨_, rfl, by show 2 ≤ sizeLine; decide, fun p4 hp4 => ⟨by show 2 ≤ sizeLine; decide, fun p5 hp5 => ⟨by show 2 ≤ sizeLine; decide, fun p6 hp6 => ?_⟩⟩⟩
    have s10 := same_new (o := .tup [.str "name", .str "z"]) hp4
    have s11 := same_new (o := .tup [v, .ref p4]) hp5
    have s12 := same_new (o := .tup [.str "do", .ref p5]) hp6
    have S12 := s10.trans (s11.trans s12)
    have d4 : Dp K (upd (upd (upd H9 p4 (.tup [.str "name", .str "z"])) p5 (.tup [v, .ref p4])) p6 (.tup [.str "do", .ref p5])) (.ref p6) (Tr.mk .doo [t, .mk (.name "z") []]).enc :=
      unview (h := .doo) (ds := [t.enc, (Tr.mk (.name "z") []).enc]) (.inl (.inl upd_same)) ⟨p5, [v, .ref p4], rfl, sqt_same s12 (.inl (.inl upd_same)), .cons (dp_same S12 _ _ hv9) (.cons (unview (h := .name "z") (ds := []) (sqt_same (s11.trans s12) (.inl (.inl upd_same))) rfl) .nil)⟩
    have g4 : Good (.mk .doo [t, .mk (.name "z") []]) := ⟨⟨trivial, by show 2 ≤ 11; decide, ok6, ⟨⟨rfl, by decide +kernel⟩, by show 0 ≤ 11; decide, trivial⟩, trivial⟩, (dep_mk (n := 11)).mpr fun u hu => by
      simp only [List.mem_cons, List.not_mem_nil, or_false] at hu
      rcases hu with rfl | rfl
      · exact dp6
      · show 1 ≤ 11; decide, by show t.size + (1 + 0) + 1 ≤ _; omega⟩
    have d3' := dp_same S12 _ _ d3
    have har12 := dp_same S12 _ _ har9
    have hv12 := dp_same S12 _ _ hv9
    generalize upd (upd (upd H9 p4 (.tup [.str "name", .str "z"])) p5 (.tup [v, .ref p4])) p6 (.tup [.str "do", .ref p5]) = H12 at *
    refine ⟨by show 4 ≤ sizeLine; decide, fun LL hLL => ⟨LL, rfl, ⟨_, .inl (.inl upd_same)⟩, ?_⟩⟩
    have s13 := same_new (o := .lst [v, ar, .ref p3, .ref p6]) hLL
    have hall : DpAll K H12 [v, ar, .ref p3, .ref p6] (Tr.encL [t, ta, .mk (.fn (names.take 1)) [t], .mk .doo [t, .mk (.name "z") []]]) := .cons hv12 (.cons har12 (.cons d3' (.cons d4 .nil)))
    have gall : ∀ u ∈ [t, ta, .mk (.fn (names.take 1)) [t], .mk .doo [t, .mk (.name "z") []]], Good u := fun u hu => by
      simp only [List.mem_cons, List.not_mem_nil, or_false] at hu
      rcases hu with rfl | rfl | rfl | rfl
      · exact ⟨ok6, by omega, by omega⟩
      · exact gta
      · exact g3
      · exact g4
    have hall13 := dps_same s13 _ _ hall
    have hLL13 : (upd H12 LL (.lst [v, ar, .ref p3, .ref p6])) LL = some (.lst [v, ar, .ref p3, .ref p6]) := upd_same
    generalize [t, ta, .mk (.fn (names.take 1)) [t], .mk .doo [t, .mk (.name "z") []]] = TL at *
    generalize upd H12 LL (.lst [v, ar, .ref p3, .ref p6]) = H13 at *
    refine for_it (walk_list (xs := [v, ar, .ref p3, .ref p6])) (fun i σ H' => ∃ v6 : Option V, σ = [some (.ref a), some (.ref h), some (.ref nm), some v, some ar, none, v6] ∧ Same H13 H')
      ⟨none, rfl, Same.refl _⟩ (fun i σ H' _ z => ?_) ?_ ?_
    · obtain ⟨_, _, z⟩ := z
      exact .inl (.inl (z _ _ hLL13))
    · rintro i x σ Ha H14 hi ⟨v6, rfl, s14⟩ ⟨rfl, e2⟩
      obtain ⟨d, ed, hx⟩ := DpAll.atV hall13 e2
      obtain ⟨u, eu, rfl⟩ := encL_at' ed
      obtain ⟨ok, dp, sz⟩ := gall u (List.mem_of_getElem? eu)
      have hx14 := dp_same s14 _ _ hx
      refine ⟨fun σ' H' => σ' = [some (.ref a), some (.ref h), some (.ref nm), some v, some ar, none, some x] ∧ Same H14 H', ?_, ?_⟩
      · refine ⟨_, rfl, x, u, rfl, hx14, ok, dp, sz, fun r ys H15 s15 hr15 as15 m15 => ?_⟩
        have l1 := free_len false u
        refine ⟨_, rfl, x, u, false, rfl, dp_same s15 _ _ hx14, ok, dp, sz, fun l H16 s16 _ hl16 => ⟨l, _, rfl, .inl (.inl hl16), by omega, free_sok false u ok, fun r2 ys2 H17 s17 hr17 as17 m17 => ?_⟩⟩
        have ey : ys2 = ys := Asc.uniq as17 as15 fun x => by rw [m17, m15]
        subst ey
        have hso : ∀ x ∈ ys2, sok x := fun x m => free_sok false u ok x ((m15 x).mp m)
        have sh := (lay_strs hso 1).sh (by decide)
        refine ⟨encs ys2, encs ys2, .tup (sqt_same (s16.trans s17) hr15) (dpAll_strs _), .tup hr17 (dpAll_strs _), sh, sh, _, rfl, ?_⟩
        rw [ne_same' sh]
        have S17 := s15.trans (s16.trans s17)
        refine iteF ⟨_, rfl, x, u, rfl, dp_same S17 _ _ hx14, ok, dp, sz, fun r3 zs H18 s18 hr18 as18 m18 => ?_⟩
        have l2 := free_len true u
        refine ⟨_, rfl, x, u, true, rfl, dp_same (S17.trans s18) _ _ hx14, ok, dp, sz, fun l3 H19 s19 _ hl19 => ⟨l3, _, rfl, .inl (.inl hl19), by omega, free_sok true u ok, fun r4 zs2 H20 s20 hr20 as20 m20 => ?_⟩⟩
        have ez : zs2 = zs := Asc.uniq as20 as18 fun x => by rw [m20, m18]
        subst ez
        have hso2 : ∀ x ∈ zs2, sok x := fun x m => free_sok true u ok x ((m18 x).mp m)
        have sh2 := (lay_strs hso2 1).sh (by decide)
        refine ⟨encs zs2, encs zs2, .tup (sqt_same (s19.trans s20) hr18) (dpAll_strs _), .tup hr20 (dpAll_strs _), sh2, sh2, _, rfl, ?_⟩
        rw [ne_same' sh2]
        exact iteF ⟨rfl, S17.trans (s18.trans (s19.trans s20))⟩
      · rintro σ' H15 ⟨rfl, s15⟩
        refine ⟨_, rfl, x, u, rfl, dp_same s15 _ _ hx14, ok, dp, fun r H16 s16 hr16 => ?_⟩
        refine ⟨_, rfl, by show 0 ≤ sizeLine; decide, fun e he => ?_⟩
        have s17 := same_new (o := .lst []) he
        refine ⟨x, e, u, [], rfl, dp_same (s15.trans (s16.trans s17)) _ _ hx14, ok, dp, upd_same, by decide, fun r2 H18 s18 hr18 => ?_⟩
        have sh := (lay_wr (wrong_sok u [] · ok)).sh (by decide)
        refine ⟨_, _, dp_same (s17.trans s18) _ _ hr16, hr18, sh, sh, _, rfl, ?_⟩
        rw [ne_same' sh]
        exact iteF ⟨_, rfl, s14.trans (s15.trans (s16.trans (s17.trans s18)))⟩
    · rintro σ H14 ⟨v6, rfl, s14⟩
      refine ⟨by show 0 ≤ sizeLine; decide, fun q1 hq1 => ⟨by show 2 ≤ sizeLine; decide, fun q2 hq2 => ⟨by show 0 ≤ sizeLine; decide, fun q3 hq3 => ⟨by show 3 ≤ sizeLine; decide, fun q4 hq4 => ⟨by show 3 ≤ sizeLine; decide, fun q5 hq5 => ⟨by show 2 ≤ sizeLine; decide, fun q6 hq6 => ⟨by show 1 ≤ sizeLine; decide, fun q7 hq7 => ⟨by show 2 ≤ sizeLine; decide, fun q8 hq8 => ⟨by show 3 ≤ sizeLine; decide, fun q9 hq9 => ?_⟩⟩⟩⟩⟩⟩⟩⟩⟩
      have r2 := same_new (o := .tup [.str "name", .str "f"]) hq2
      have r3 := same_new (o := .tup []) hq3
      have r4 := same_new (o := .tup [.str "call", .ref q2, .ref q3]) hq4
      have r5 := same_new (o := .tup [.str "fn", .ref q1, .ref q4]) hq5
      have r6 := same_new (o := .tup [.str "f", .ref q5]) hq6
      have r7 := same_new (o := .tup [.ref q6]) hq7
      have r8 := same_new (o := .tup [.str "name", .str "f"]) hq8
      have r9 := same_new (o := .tup [.str "rec", .ref q7, .ref q8]) hq9
      refine ⟨_, recT, rfl, ?_, rec_ok, by decide, fun r H15 s15 hr15 => ?_⟩
      · refine .tup (.inl (.inl upd_same)) (.cons (.str _) (.cons (.tup (sqt_same (r8.trans r9) (.inl (.inl upd_same))) (.cons (.tup (sqt_same (r7.trans (r8.trans r9)) (.inl (.inl upd_same))) (.cons (.str _) (.cons (.tup (sqt_same (r6.trans (r7.trans (r8.trans r9))) (.inl (.inl upd_same))) ?_) .nil))) .nil)) (.cons (.tup (sqt_same r9 (.inl (.inl upd_same))) (.cons (.str _) (.cons (.str _) .nil))) .nil)))
        refine .cons (.str _) (.cons (.tup (sqt_same (r2.trans (r3.trans (r4.trans (r5.trans (r6.trans (r7.trans (r8.trans r9))))))) (.inl (.inl upd_same))) .nil) (.cons (.tup (sqt_same (r5.trans (r6.trans (r7.trans (r8.trans r9)))) (.inl (.inl upd_same))) ?_) .nil))
        exact .cons (.str _) (.cons (.tup (sqt_same (r3.trans (r4.trans (r5.trans (r6.trans (r7.trans (r8.trans r9)))))) (.inl (.inl upd_same))) (.cons (.str _) (.cons (.str _) .nil))) (.cons (.tup (sqt_same (r4.trans (r5.trans (r6.trans (r7.trans (r8.trans r9))))) (.inl (.inl upd_same))) .nil) .nil))
      · have er : recT.wrong [] = none := by rfl
        rw [er] at hr15
        cases hr15
        exact ⟨rfl, k H15⟩
end
end K02

set_option linter.all false
/-! classes of errors with fields: their facts as one check -/
namespace Cm
open PySem L2 PySem.Spec PyProof.Rows
/-- the def within a class of the text -/
def iniS : Stmt → Stmt
  | .ClassDef _ _ _ b _ _ _ _ _ _ _ => b.getD 0 (.Pass ⟨0, 0, 0, 0⟩)
  | s => s
theorem two_of {α : Type} {xs : List α} (h : xs.length = 2) : ∃ x y, xs = [x, y] := by
  cases xs with
  | nil => simp at h
  | cons a r =>
    obtain ⟨b, rfl⟩ := one_of (show r.length = 1 by simpa using h)
    exact ⟨a, b, rfl⟩
def excB (K : PySem.W.Frag) (C : Addr) : Bool :=
  PySem.W.findIn K (.ref C) "__getattribute__" == some (some (.builtin "BaseException.__getattribute__")) && (PySem.W.findIn K (.ref C) "__getattr__" == some Option.none && (PySem.W.subIn K (.ref C) (.type "BaseException") == some true && (PySem.W.hasDictIn K C &&
    (PySem.W.findIn K (.ref C) "__class__" == some (some (.builtin "object.__class__")) && (PySem.W.specialIn K (.builtin "object.__class__") "__get__" == some (some (.builtin "getset_descriptor.__get__")) && (PySem.W.takesIn K (.builtin "object.__class__") == some true &&
      (PySem.W.mroIn K C (.type "object") == some true && (PySem.W.typeIn K (.ref C) == some (.type "type") && PySem.W.keepIn K (.ref C)))))))))
def clsB (K : PySem.W.Frag) (C fI : Addr) (fl : List Str) : Bool :=
  excB K C && (PySem.W.findIn K (.ref C) "__setattr__" == some (some (.builtin "object.__setattr__")) && ((fl.all fun f => PySem.W.findIn K (.ref C) f == some Option.none) && (PySem.W.typeIn K (.ref fI) == some (.type "function") && PySem.W.keepIn K (.ref fI))))
structure ExcF (K : PySem.W.Frag) (C : Addr) : Prop where
  ec : ExcC K C
  xf : XfC K C
  ty : PySem.W.typeIn K (.ref C) = some (.type "type")
  kp : PySem.W.keepIn K (.ref C) = true
theorem excB_ok {K : PySem.W.Frag} {C : Addr} (h : excB K C = true) : ExcF K C := by
  simp only [excB, Bool.and_eq_true, beq_iff_eq] at h
  obtain ⟨h1, h2, h3, h4, h5, h6, h7, h8, h9, h10⟩ := h
  exact ⟨⟨h1, h2, h3, h4, h5, h6, h7, h8⟩, ⟨h1, h2, h3, h4⟩, h9, h10⟩
theorem clsB_exc {K : PySem.W.Frag} {C fI : Addr} {fl : List Str} (h : clsB K C fI fl = true) : ExcF K C := by
  simp only [clsB, Bool.and_eq_true] at h
  exact excB_ok h.1
theorem clsB_kI {K : PySem.W.Frag} {C fI : Addr} {fl : List Str} (h : clsB K C fI fl = true) : PySem.W.keepIn K (.ref fI) = true := by
  simp only [clsB, Bool.and_eq_true, beq_iff_eq] at h
  exact h.2.2.2.2
theorem mk_of {P : Program} {w : World} {K : PySem.W.Frag} {h : Heap} {mg : Str → Option Value} {base : Heap} {C fI R : Addr} {x : Str} {fl ps : List Str} {fd : FuncData} (X : K.In h) (G : h.Ns mainGlobals mg) (a : PySem.W.nsIn K mainGlobals x = some (some (.ref C)))
    {nm q : Str} {N : Addr} {bs : List Value} {sn : List Str} {sub : List Value} {ab : Bool} {col : Option Bool} {dd : Option Addr} {m0 m1 m2 m3 m5 : Option Value}
    (xl : K.lookup C = some (excClassObj nm q C N bs [.ref R, .type "ValueError", .type "Exception", .type "BaseException", .type "object"] true sn sub ab col dd m0 m1 m2 m3 m5 "ValueError.__new__"))
    (i : PySem.W.findIn K (.ref C) "__init__" = some (some (.ref fI))) (o : clsB K C fI fl = true) (F : FnOk P w K mg base CX0 1 fI fd ps (spI K fl)) (b : Binds K fd ps []) : Mk P w K mg base C x fl := by
  simp only [clsB, Bool.and_eq_true, beq_iff_eq, List.all_eq_true] at o
  obtain ⟨o1, o2, o3, o4, o5⟩ := o
  have E := excB_ok o1
  refine ⟨⟨⟨nm, q, N, bs, _, sn, sub, ab, col, dd, m0, m1, m2, m3, m5, xl, ?_⟩, o2, E.ec.hs, E.ty, E.kp⟩, PySem.W.mg_of X G a, E.xf, E.ec, o3, fI, fd, ps, i, o4, F, b⟩
  show PySem.HandSPX.refsVE [.type "ValueError", .type "Exception", .type "BaseException", .type "object"] = true
  decide +kernel
/-- caught by its own name -/
theorem exm_own {K : PySem.W.Frag} {C fI : Addr} {fl : List Str} (o : clsB K C fI fl = true) (s : PySem.W.subIn K (.ref C) (.ref C) = some true) : PySem.W.exmOne K (.ref C) (.ref C) = some true := by
  have E := clsB_exc o
  exact PySem.W.exm_ref E.ec.hs E.ec.hd E.ty s
end Cm

namespace K02
open PySem L2 Cm
section
variable {P : Program} {w : World} {K : PySem.W.Frag} {mg : Str → Option Value} {base : Heap}
abbrev i_BadName : Stmt := iniS (top 2)
abbrev N_BadName : List Str := ["self", "what", "name"]
theorem sc_BadName : FnScope N_BadName N_BadName (defScope i_BadName) := ⟨rfl, rfl, rfl, by decide +kernel, rfl, by decide +kernel, by decide +kernel⟩
theorem ok_BadName {f : Addr} {fd : FuncData} (F : Fun K "__init__" "BadName.__init__" i_BadName f fd) : FnOk P w K mg base CX0 1 f fd N_BadName (spI K ["what", "name"]) := by
  refine F.ok sc_BadName (fun vs H Q E h => ?_) (fun cdv A outer s H vs Q E hr h => ?_)
  · obtain ⟨a, C, xs, rfl, hl, _⟩ := h
    show xs.length + 1 = _
    rw [hl]
    rfl
  · obtain ⟨a, C, xs, rfl, hl, T, no, ha, k⟩ := h
    obtain ⟨x, y, rfl⟩ := two_of hl
    refine ⟨_, (pss_cons (ps_ost (pv 0) (pv 1)) (pss_one (ps_ost (pv 0) (pv 2)))), ?_⟩
    refine ⟨_, rfl, _, rfl, init1 T (no _ List.mem_cons_self) ha fun d H' hd ne keep ea ed => ?_⟩
    refine ⟨_, rfl, _, rfl, init2 T (no _ (List.mem_cons_of_mem _ List.mem_cons_self)) ea ed (show 1 ≤ 900 by decide) ne fun keep2 => ?_⟩
    exact k d _ hd ne (fun b o hb e => keep2 b o (fun z => by rw [z, hd] at e; cases e) (keep b o hb e)) (keep2 _ _ ne.symm ea) upd_same
end
theorem at_mk {K : PySem.W.Frag} {h : Heap} {mg : Str → Option Value} {x : Str} {st : Stmt} {ps : List Str} {f : Addr} {oc : Value} {od an : Option Addr} {osl : Array (Option Value)} {kV doc pm cdv ct : Value} (X : K.In h) (G : h.Ns mainGlobals mg)
    (a : PySem.W.nsIn K mainGlobals x = some (some (.ref f))) (l : K.lookup f = some ⟨oc, od, .func (PySem.W.fnOf x x (defArgs st) (defBody st) (defScope st) .none kV doc pm an cdv ct), osl⟩) (c : PySem.W.codeIn K cdv x = true) (k : PySem.W.keepIn K (.ref f) = true)
    (b : ∀ (kV doc pm : Value) (an : Option Addr) (cdv ct : Value) (us : List Value), us.length = ps.length → bindArgs (PySem.W.fnOf x x (defArgs st) (defBody st) (defScope st) .none kV doc pm an cdv ct) ⟨us, []⟩ = pure (ps.zip us)) : At K mg x st ps :=
  ⟨_, _, fun_mk l c k, PySem.W.mg_of X G a, (fun_mk l c k).binds b⟩
theorem all_mk {l : PySem.W.OpenLaw} {w : World} {K : PySem.W.Frag} {h : Heap} {mg : Str → Option Value} {fa f0 f1 f2 f3 f4 f5 f6 f7 f8 f9 f10 f11 f12 f13 f14 f15 f16 f17 f18 f19 f20 f21 f22 f23 f24 : Addr} (X : K.In h) (G : h.Ns mainGlobals mg) (hfa : mg "law" = some (.ref fa))
    {od0 an0 : Option Addr} {sl0 : Array (Option Value)} {oc0 kV0 dc0 pm0 cd0 ct0 : Value} (a0 : PySem.W.nsIn K mainGlobals "_law_mix" = some (some (.ref f0))) (l0 : K.lookup f0 = some ⟨oc0, od0, .func (PySem.W.fnOf "_law_mix" "_law_mix" (defArgs s_l_mix) (defBody s_l_mix) (defScope s_l_mix) .none kV0 dc0 pm0 an0 cd0 ct0), sl0⟩) (c0 : PySem.W.codeIn K cd0 "_law_mix" = true) (k0 : PySem.W.keepIn K (.ref f0) = true)
    {od1 an1 : Option Addr} {sl1 : Array (Option Value)} {oc1 kV1 dc1 pm1 cd1 ct1 : Value} (a1 : PySem.W.nsIn K mainGlobals "_law_hand" = some (some (.ref f1))) (l1 : K.lookup f1 = some ⟨oc1, od1, .func (PySem.W.fnOf "_law_hand" "_law_hand" (defArgs s_l_hand) (defBody s_l_hand) (defScope s_l_hand) .none kV1 dc1 pm1 an1 cd1 ct1), sl1⟩) (c1 : PySem.W.codeIn K cd1 "_law_hand" = true) (k1 : PySem.W.keepIn K (.ref f1) = true)
    {od2 an2 : Option Addr} {sl2 : Array (Option Value)} {oc2 kV2 dc2 pm2 cd2 ct2 : Value} (a2 : PySem.W.nsIn K mainGlobals "_law_draw" = some (some (.ref f2))) (l2 : K.lookup f2 = some ⟨oc2, od2, .func (PySem.W.fnOf "_law_draw" "_law_draw" (defArgs s_l_draw) (defBody s_l_draw) (defScope s_l_draw) .none kV2 dc2 pm2 an2 cd2 ct2), sl2⟩) (c2 : PySem.W.codeIn K cd2 "_law_draw" = true) (k2 : PySem.W.keepIn K (.ref f2) = true)
    {od3 an3 : Option Addr} {sl3 : Array (Option Value)} {oc3 kV3 dc3 pm3 cd3 ct3 : Value} (a3 : PySem.W.nsIn K mainGlobals "_law_pick" = some (some (.ref f3))) (l3 : K.lookup f3 = some ⟨oc3, od3, .func (PySem.W.fnOf "_law_pick" "_law_pick" (defArgs s_l_pick) (defBody s_l_pick) (defScope s_l_pick) .none kV3 dc3 pm3 an3 cd3 ct3), sl3⟩) (c3 : PySem.W.codeIn K cd3 "_law_pick" = true) (k3 : PySem.W.keepIn K (.ref f3) = true)
    {od4 an4 : Option Addr} {sl4 : Array (Option Value)} {oc4 kV4 dc4 pm4 cd4 ct4 : Value} (a4 : PySem.W.nsIn K mainGlobals "_law_any_leaf" = some (some (.ref f4))) (l4 : K.lookup f4 = some ⟨oc4, od4, .func (PySem.W.fnOf "_law_any_leaf" "_law_any_leaf" (defArgs s_l_any_leaf) (defBody s_l_any_leaf) (defScope s_l_any_leaf) .none kV4 dc4 pm4 an4 cd4 ct4), sl4⟩) (c4 : PySem.W.codeIn K cd4 "_law_any_leaf" = true) (k4 : PySem.W.keepIn K (.ref f4) = true)
    {od5 an5 : Option Addr} {sl5 : Array (Option Value)} {oc5 kV5 dc5 pm5 cd5 ct5 : Value} (a5 : PySem.W.nsIn K mainGlobals "_law_any_names" = some (some (.ref f5))) (l5 : K.lookup f5 = some ⟨oc5, od5, .func (PySem.W.fnOf "_law_any_names" "_law_any_names" (defArgs s_l_any_names) (defBody s_l_any_names) (defScope s_l_any_names) .none kV5 dc5 pm5 an5 cd5 ct5), sl5⟩) (c5 : PySem.W.codeIn K cd5 "_law_any_names" = true) (k5 : PySem.W.keepIn K (.ref f5) = true)
    {od6 an6 : Option Addr} {sl6 : Array (Option Value)} {oc6 kV6 dc6 pm6 cd6 ct6 : Value} (a6 : PySem.W.nsIn K mainGlobals "_law_any_fun" = some (some (.ref f6))) (l6 : K.lookup f6 = some ⟨oc6, od6, .func (PySem.W.fnOf "_law_any_fun" "_law_any_fun" (defArgs s_l_any_fun) (defBody s_l_any_fun) (defScope s_l_any_fun) .none kV6 dc6 pm6 an6 cd6 ct6), sl6⟩) (c6 : PySem.W.codeIn K cd6 "_law_any_fun" = true) (k6 : PySem.W.keepIn K (.ref f6) = true)
    {od7 an7 : Option Addr} {sl7 : Array (Option Value)} {oc7 kV7 dc7 pm7 cd7 ct7 : Value} (a7 : PySem.W.nsIn K mainGlobals "_law_any" = some (some (.ref f7))) (l7 : K.lookup f7 = some ⟨oc7, od7, .func (PySem.W.fnOf "_law_any" "_law_any" (defArgs s_l_any) (defBody s_l_any) (defScope s_l_any) .none kV7 dc7 pm7 an7 cd7 ct7), sl7⟩) (c7 : PySem.W.codeIn K cd7 "_law_any" = true) (k7 : PySem.W.keepIn K (.ref f7) = true)
    {od8 an8 : Option Addr} {sl8 : Array (Option Value)} {oc8 kV8 dc8 pm8 cd8 ct8 : Value} (a8 : PySem.W.nsIn K mainGlobals "parts_of" = some (some (.ref f8))) (l8 : K.lookup f8 = some ⟨oc8, od8, .func (PySem.W.fnOf "parts_of" "parts_of" (defArgs s_p_parts_of) (defBody s_p_parts_of) (defScope s_p_parts_of) .none kV8 dc8 pm8 an8 cd8 ct8), sl8⟩) (c8 : PySem.W.codeIn K cd8 "parts_of" = true) (k8 : PySem.W.keepIn K (.ref f8) = true)
    {od9 an9 : Option Addr} {sl9 : Array (Option Value)} {oc9 kV9 dc9 pm9 cd9 ct9 : Value} (a9 : PySem.W.nsIn K mainGlobals "names_bound" = some (some (.ref f9))) (l9 : K.lookup f9 = some ⟨oc9, od9, .func (PySem.W.fnOf "names_bound" "names_bound" (defArgs s_p_names_bound) (defBody s_p_names_bound) (defScope s_p_names_bound) .none kV9 dc9 pm9 an9 cd9 ct9), sl9⟩) (c9 : PySem.W.codeIn K cd9 "names_bound" = true) (k9 : PySem.W.keepIn K (.ref f9) = true)
    {od10 an10 : Option Addr} {sl10 : Array (Option Value)} {oc10 kV10 dc10 pm10 cd10 ct10 : Value} (a10 : PySem.W.nsIn K mainGlobals "_gather" = some (some (.ref f10))) (l10 : K.lookup f10 = some ⟨oc10, od10, .func (PySem.W.fnOf "_gather" "_gather" (defArgs s_p_gather) (defBody s_p_gather) (defScope s_p_gather) .none kV10 dc10 pm10 an10 cd10 ct10), sl10⟩) (c10 : PySem.W.codeIn K cd10 "_gather" = true) (k10 : PySem.W.keepIn K (.ref f10) = true)
    {od11 an11 : Option Addr} {sl11 : Array (Option Value)} {oc11 kV11 dc11 pm11 cd11 ct11 : Value} (a11 : PySem.W.nsIn K mainGlobals "free_names" = some (some (.ref f11))) (l11 : K.lookup f11 = some ⟨oc11, od11, .func (PySem.W.fnOf "free_names" "free_names" (defArgs s_p_free_names) (defBody s_p_free_names) (defScope s_p_free_names) .none kV11 dc11 pm11 an11 cd11 ct11), sl11⟩) (c11 : PySem.W.codeIn K cd11 "free_names" = true) (k11 : PySem.W.keepIn K (.ref f11) = true)
    {od12 an12 : Option Addr} {sl12 : Array (Option Value)} {oc12 kV12 dc12 pm12 cd12 ct12 : Value} (a12 : PySem.W.nsIn K mainGlobals "set_names" = some (some (.ref f12))) (l12 : K.lookup f12 = some ⟨oc12, od12, .func (PySem.W.fnOf "set_names" "set_names" (defArgs s_p_set_names) (defBody s_p_set_names) (defScope s_p_set_names) .none kV12 dc12 pm12 an12 cd12 ct12), sl12⟩) (c12 : PySem.W.codeIn K cd12 "set_names" = true) (k12 : PySem.W.keepIn K (.ref f12) = true)
    {od13 an13 : Option Addr} {sl13 : Array (Option Value)} {oc13 kV13 dc13 pm13 cd13 ct13 : Value} (a13 : PySem.W.nsIn K mainGlobals "_check_twice" = some (some (.ref f13))) (l13 : K.lookup f13 = some ⟨oc13, od13, .func (PySem.W.fnOf "_check_twice" "_check_twice" (defArgs s_p_check_twice) (defBody s_p_check_twice) (defScope s_p_check_twice) .none kV13 dc13 pm13 an13 cd13 ct13), sl13⟩) (c13 : PySem.W.codeIn K cd13 "_check_twice" = true) (k13 : PySem.W.keepIn K (.ref f13) = true)
    {od14 an14 : Option Addr} {sl14 : Array (Option Value)} {oc14 kV14 dc14 pm14 cd14 ct14 : Value} (a14 : PySem.W.nsIn K mainGlobals "_check_within" = some (some (.ref f14))) (l14 : K.lookup f14 = some ⟨oc14, od14, .func (PySem.W.fnOf "_check_within" "_check_within" (defArgs s_p_check_within) (defBody s_p_check_within) (defScope s_p_check_within) .none kV14 dc14 pm14 an14 cd14 ct14), sl14⟩) (c14 : PySem.W.codeIn K cd14 "_check_within" = true) (k14 : PySem.W.keepIn K (.ref f14) = true)
    {od15 an15 : Option Addr} {sl15 : Array (Option Value)} {oc15 kV15 dc15 pm15 cd15 ct15 : Value} (a15 : PySem.W.nsIn K mainGlobals "check_names" = some (some (.ref f15))) (l15 : K.lookup f15 = some ⟨oc15, od15, .func (PySem.W.fnOf "check_names" "check_names" (defArgs s_p_check_names) (defBody s_p_check_names) (defScope s_p_check_names) .none kV15 dc15 pm15 an15 cd15 ct15), sl15⟩) (c15 : PySem.W.codeIn K cd15 "check_names" = true) (k15 : PySem.W.keepIn K (.ref f15) = true)
    {od16 an16 : Option Addr} {sl16 : Array (Option Value)} {oc16 kV16 dc16 pm16 cd16 ct16 : Value} (a16 : PySem.W.nsIn K mainGlobals "_law_parts" = some (some (.ref f16))) (l16 : K.lookup f16 = some ⟨oc16, od16, .func (PySem.W.fnOf "_law_parts" "_law_parts" (defArgs s_l_parts) (defBody s_l_parts) (defScope s_l_parts) .none kV16 dc16 pm16 an16 cd16 ct16), sl16⟩) (c16 : PySem.W.codeIn K cd16 "_law_parts" = true) (k16 : PySem.W.keepIn K (.ref f16) = true)
    {od17 an17 : Option Addr} {sl17 : Array (Option Value)} {oc17 kV17 dc17 pm17 cd17 ct17 : Value} (a17 : PySem.W.nsIn K mainGlobals "_law_binds" = some (some (.ref f17))) (l17 : K.lookup f17 = some ⟨oc17, od17, .func (PySem.W.fnOf "_law_binds" "_law_binds" (defArgs s_l_binds) (defBody s_l_binds) (defScope s_l_binds) .none kV17 dc17 pm17 an17 cd17 ct17), sl17⟩) (c17 : PySem.W.codeIn K cd17 "_law_binds" = true) (k17 : PySem.W.keepIn K (.ref f17) = true)
    {od18 an18 : Option Addr} {sl18 : Array (Option Value)} {oc18 kV18 dc18 pm18 cd18 ct18 : Value} (a18 : PySem.W.nsIn K mainGlobals "_law_free" = some (some (.ref f18))) (l18 : K.lookup f18 = some ⟨oc18, od18, .func (PySem.W.fnOf "_law_free" "_law_free" (defArgs s_l_free) (defBody s_l_free) (defScope s_l_free) .none kV18 dc18 pm18 an18 cd18 ct18), sl18⟩) (c18 : PySem.W.codeIn K cd18 "_law_free" = true) (k18 : PySem.W.keepIn K (.ref f18) = true)
    {od19 an19 : Option Addr} {sl19 : Array (Option Value)} {oc19 kV19 dc19 pm19 cd19 ct19 : Value} (a19 : PySem.W.nsIn K mainGlobals "_law_unlike" = some (some (.ref f19))) (l19 : K.lookup f19 = some ⟨oc19, od19, .func (PySem.W.fnOf "_law_unlike" "_law_unlike" (defArgs s_l_unlike) (defBody s_l_unlike) (defScope s_l_unlike) .none kV19 dc19 pm19 an19 cd19 ct19), sl19⟩) (c19 : PySem.W.codeIn K cd19 "_law_unlike" = true) (k19 : PySem.W.keepIn K (.ref f19) = true)
    {od20 an20 : Option Addr} {sl20 : Array (Option Value)} {oc20 kV20 dc20 pm20 cd20 ct20 : Value} (a20 : PySem.W.nsIn K mainGlobals "_law_first_wrong" = some (some (.ref f20))) (l20 : K.lookup f20 = some ⟨oc20, od20, .func (PySem.W.fnOf "_law_first_wrong" "_law_first_wrong" (defArgs s_l_first_wrong) (defBody s_l_first_wrong) (defScope s_l_first_wrong) .none kV20 dc20 pm20 an20 cd20 ct20), sl20⟩) (c20 : PySem.W.codeIn K cd20 "_law_first_wrong" = true) (k20 : PySem.W.keepIn K (.ref f20) = true)
    {od21 an21 : Option Addr} {sl21 : Array (Option Value)} {oc21 kV21 dc21 pm21 cd21 ct21 : Value} (a21 : PySem.W.nsIn K mainGlobals "_law_doubled" = some (some (.ref f21))) (l21 : K.lookup f21 = some ⟨oc21, od21, .func (PySem.W.fnOf "_law_doubled" "_law_doubled" (defArgs s_l_doubled) (defBody s_l_doubled) (defScope s_l_doubled) .none kV21 dc21 pm21 an21 cd21 ct21), sl21⟩) (c21 : PySem.W.codeIn K cd21 "_law_doubled" = true) (k21 : PySem.W.keepIn K (.ref f21) = true)
    {od22 an22 : Option Addr} {sl22 : Array (Option Value)} {oc22 kV22 dc22 pm22 cd22 ct22 : Value} (a22 : PySem.W.nsIn K mainGlobals "_law_changed" = some (some (.ref f22))) (l22 : K.lookup f22 = some ⟨oc22, od22, .func (PySem.W.fnOf "_law_changed" "_law_changed" (defArgs s_l_changed) (defBody s_l_changed) (defScope s_l_changed) .none kV22 dc22 pm22 an22 cd22 ct22), sl22⟩) (c22 : PySem.W.codeIn K cd22 "_law_changed" = true) (k22 : PySem.W.keepIn K (.ref f22) = true)
    {od23 an23 : Option Addr} {sl23 : Array (Option Value)} {oc23 kV23 dc23 pm23 cd23 ct23 : Value} (a23 : PySem.W.nsIn K mainGlobals "_law_told" = some (some (.ref f23))) (l23 : K.lookup f23 = some ⟨oc23, od23, .func (PySem.W.fnOf "_law_told" "_law_told" (defArgs s_l_told) (defBody s_l_told) (defScope s_l_told) .none kV23 dc23 pm23 an23 cd23 ct23), sl23⟩) (c23 : PySem.W.codeIn K cd23 "_law_told" = true) (k23 : PySem.W.keepIn K (.ref f23) = true)
    {od24 an24 : Option Addr} {sl24 : Array (Option Value)} {oc24 kV24 dc24 pm24 cd24 ct24 : Value} (a24 : PySem.W.nsIn K mainGlobals "law" = some (some (.ref f24))) (l24 : K.lookup f24 = some ⟨oc24, od24, .func (PySem.W.fnOf "law" "law" (defArgs s_law) (defBody s_law) (defScope s_law) .none kV24 dc24 pm24 an24 cd24 ct24), sl24⟩) (c24 : PySem.W.codeIn K cd24 "law" = true) (k24 : PySem.W.keepIn K (.ref f24) = true)
    (z_abs : PySem.W.nsIn K mainGlobals "abs" = some none)
    (z_enumerate : PySem.W.nsIn K mainGlobals "enumerate" = some none)
    (z_int : PySem.W.nsIn K mainGlobals "int" = some none)
    (z_len : PySem.W.nsIn K mainGlobals "len" = some none)
    (z_list : PySem.W.nsIn K mainGlobals "list" = some none)
    (z_min : PySem.W.nsIn K mainGlobals "min" = some none)
    (z_range : PySem.W.nsIn K mainGlobals "range" = some none)
    (z_sorted : PySem.W.nsIn K mainGlobals "sorted" = some none)
    (z_tuple : PySem.W.nsIn K mainGlobals "tuple" = some none)
    (z_zip : PySem.W.nsIn K mainGlobals "zip" = some none)
    {R : Addr} {CBadName IBadName : Addr} {nmBadName qBadName : Str} {NBadName : Addr} {bsBadName : List Value} {snBadName : List Str} {subBadName : List Value} {abBadName : Bool} {colBadName : Option Bool} {ddBadName : Option Addr} {m0BadName m1BadName m2BadName m3BadName m5BadName : Option Value} {odBadName anBadName : Option Addr} {slBadName : Array (Option Value)} {ocBadName kVBadName dcBadName pmBadName cdBadName ctBadName : Value} 
    (aBadName : PySem.W.nsIn K mainGlobals "BadName" = some (some (.ref CBadName)))
    (xBadName : K.lookup CBadName = some (excClassObj nmBadName qBadName CBadName NBadName bsBadName [.ref R, .type "ValueError", .type "Exception", .type "BaseException", .type "object"] true snBadName subBadName abBadName colBadName ddBadName m0BadName m1BadName m2BadName m3BadName m5BadName "ValueError.__new__"))
    (iBadName : PySem.W.findIn K (.ref CBadName) "__init__" = some (some (.ref IBadName)))
    (lBadName : K.lookup IBadName = some ⟨ocBadName, odBadName, .func (PySem.W.fnOf "__init__" "BadName.__init__" (defArgs i_BadName) (defBody i_BadName) (defScope i_BadName) .none kVBadName dcBadName pmBadName anBadName cdBadName ctBadName), slBadName⟩)
    (cBadName : PySem.W.codeIn K cdBadName "BadName.__init__" = true)
    (oBadName : clsB K CBadName IBadName ["what", "name"] = true)
    (sBadName : PySem.W.subIn K (.ref CBadName) (.ref CBadName) = some true)
    : ∃ fd : FuncData, (∀ (s : Shared) (v : Value), BindsTo s fd ⟨[v], []⟩ [("_law_script", v)]) ∧ ∀ base : Heap, K.In base → base.Ns mainGlobals mg → LawAt l.prog w K mg base 19 fa fd ["_law_script"] (spLaw K) := by
  have e := hfa.symm.trans (PySem.W.mg_of X G a24)
  cases e
  have T : Txt mg := ⟨PySem.W.mg_none_of X G z_abs, PySem.W.mg_none_of X G z_enumerate, PySem.W.mg_none_of X G z_int, PySem.W.mg_none_of X G z_len, PySem.W.mg_none_of X G z_list, PySem.W.mg_none_of X G z_min, PySem.W.mg_none_of X G z_range, PySem.W.mg_none_of X G z_sorted, PySem.W.mg_none_of X G z_tuple, PySem.W.mg_none_of X G z_zip⟩
  have D_mix := at_mk (st := s_l_mix) (ps := ["_law_number", "_law_turn"]) X G a0 l0 c0 k0 fun _ _ _ _ _ _ us hl => match us, hl with | [_, _], _ => rfl
  have D_hand := at_mk (st := s_l_hand) (ps := ["_law_script"]) X G a1 l1 c1 k1 fun _ _ _ _ _ _ us hl => match us, hl with | [_], _ => rfl
  have D_draw := at_mk (st := s_l_draw) (ps := ["_law_hand_here", "_law_many"]) X G a2 l2 c2 k2 fun _ _ _ _ _ _ us hl => match us, hl with | [_, _], _ => rfl
  have D_pick := at_mk (st := s_l_pick) (ps := ["_law_hand_here", "_law_things"]) X G a3 l3 c3 k3 fun _ _ _ _ _ _ us hl => match us, hl with | [_, _], _ => rfl
  have D_leaf := at_mk (st := s_l_any_leaf) (ps := ["_law_hand_here", "_law_names"]) X G a4 l4 c4 k4 fun _ _ _ _ _ _ us hl => match us, hl with | [_, _], _ => rfl
  have D_names := at_mk (st := s_l_any_names) (ps := ["_law_hand_here", "_law_names", "_law_most"]) X G a5 l5 c5 k5 fun _ _ _ _ _ _ us hl => match us, hl with | [_, _, _], _ => rfl
  have D_anyf := at_mk (st := s_l_any_fun) (ps := ["_law_hand_here", "_law_deep", "_law_names", "_law_room", "_law_most"]) X G a6 l6 c6 k6 fun _ _ _ _ _ _ us hl => match us, hl with | [_, _, _, _, _], _ => rfl
  have D_any := at_mk (st := s_l_any) (ps := ["_law_hand_here", "_law_deep", "_law_names", "_law_room"]) X G a7 l7 c7 k7 fun _ _ _ _ _ _ us hl => match us, hl with | [_, _, _, _], _ => rfl
  have D_parts := at_mk (st := s_p_parts_of) (ps := ["tree"]) X G a8 l8 c8 k8 fun _ _ _ _ _ _ us hl => match us, hl with | [_], _ => rfl
  have D_bound := at_mk (st := s_p_names_bound) (ps := ["tree"]) X G a9 l9 c9 k9 fun _ _ _ _ _ _ us hl => match us, hl with | [_], _ => rfl
  have D_gather := at_mk (st := s_p_gather) (ps := ["tree", "words", "bound", "found"]) X G a10 l10 c10 k10 fun _ _ _ _ _ _ us hl => match us, hl with | [_, _, _, _], _ => rfl
  have D_frees := at_mk (st := s_p_free_names) (ps := ["tree"]) X G a11 l11 c11 k11 fun _ _ _ _ _ _ us hl => match us, hl with | [_], _ => rfl
  have D_sets := at_mk (st := s_p_set_names) (ps := ["tree"]) X G a12 l12 c12 k12 fun _ _ _ _ _ _ us hl => match us, hl with | [_], _ => rfl
  have D_twice := at_mk (st := s_p_check_twice) (ps := ["names"]) X G a13 l13 c13 k13 fun _ _ _ _ _ _ us hl => match us, hl with | [_], _ => rfl
  have D_within := at_mk (st := s_p_check_within) (ps := ["tree", "known"]) X G a14 l14 c14 k14 fun _ _ _ _ _ _ us hl => match us, hl with | [_, _], _ => rfl
  have D_check := at_mk (st := s_p_check_names) (ps := ["tree"]) X G a15 l15 c15 k15 fun _ _ _ _ _ _ us hl => match us, hl with | [_], _ => rfl
  have D_lparts := at_mk (st := s_l_parts) (ps := ["_law_tree"]) X G a16 l16 c16 k16 fun _ _ _ _ _ _ us hl => match us, hl with | [_], _ => rfl
  have D_lbinds := at_mk (st := s_l_binds) (ps := ["_law_tree"]) X G a17 l17 c17 k17 fun _ _ _ _ _ _ us hl => match us, hl with | [_], _ => rfl
  have D_lfree := at_mk (st := s_l_free) (ps := ["_law_tree", "_law_sets_alone"]) X G a18 l18 c18 k18 fun _ _ _ _ _ _ us hl => match us, hl with | [_, _], _ => rfl
  have D_unlike := at_mk (st := s_l_unlike) (ps := ["_law_names"]) X G a19 l19 c19 k19 fun _ _ _ _ _ _ us hl => match us, hl with | [_], _ => rfl
  have D_first := at_mk (st := s_l_first_wrong) (ps := ["_law_tree", "_law_known"]) X G a20 l20 c20 k20 fun _ _ _ _ _ _ us hl => match us, hl with | [_, _], _ => rfl
  have D_doub := at_mk (st := s_l_doubled) (ps := ["_law_hand_here", "_law_tree"]) X G a21 l21 c21 k21 fun _ _ _ _ _ _ us hl => match us, hl with | [_, _], _ => rfl
  have D_chg := at_mk (st := s_l_changed) (ps := ["_law_hand_here", "_law_tree"]) X G a22 l22 c22 k22 fun _ _ _ _ _ _ us hl => match us, hl with | [_, _], _ => rfl
  have D_told := at_mk (st := s_l_told) (ps := ["_law_tree"]) X G a23 l23 c23 k23 fun _ _ _ _ _ _ us hl => match us, hl with | [_], _ => rfl
  refine ⟨PySem.W.fnOf "law" "law" (defArgs s_law) (defBody s_law) (defScope s_law) .none kV24 dc24 pm24 an24 cd24 ct24, fun s v => .of_eq rfl, fun base _ _ => ?_⟩
  have MBadName : Mk l.prog w K mg base CBadName "BadName" ["what", "name"] := mk_of X G aBadName xBadName iBadName oBadName (ok_BadName (fun_mk lBadName cBadName (clsB_kI oBadName))) ((fun_mk (st := i_BadName) lBadName cBadName (clsB_kI oBadName)).binds fun _ _ _ _ _ _ us hl => match us, hl with | [_, _, _], _ => rfl)
  have teBadName := exm_own oBadName sBadName
  have c1 := ok_mix (P := l.prog) (w := w) (base := base) T D_mix
  have c2 := ok_draw T c1 D_draw
  have c3 := ok_pick T c2 D_pick
  have c4 := ok_any_leaf c2 c3 D_leaf
  have c5 := ok_any_names T c2 D_names
  have c6 := ok_any T c2 c3 c4 c5 D_anyf D_any 6
  have p1 := ok_parts_of (P := l.prog) (w := w) (base := base) T D_parts
  have p2 := ok_names_bound T p1 D_bound
  have p3 := ok_gather T p1 p2 D_gather 12
  have p4 := ok_check_twice T MBadName D_twice
  have p5 := ok_check_within T MBadName p1 p2 p4 D_within 12
  have p6 := ok_check_names p5 D_check
  have q1 := ok_l_parts (P := l.prog) (w := w) (base := base) T D_lparts
  have q2 := ok_l_binds (P := l.prog) (w := w) (base := base) T D_lbinds
  have q3 := ok_l_doubled T c2 D_doub
  exact ok_law T ⟨ok_hand T D_hand, c2, c6, ok_l_changed T q3 D_chg 11, ok_free_names T p3 D_frees, ok_set_names T p3 D_sets, ok_l_free T q1 q2 D_lfree 12, ok_l_unlike T D_unlike, ok_l_told MBadName teBadName p6 D_told, ok_l_first_wrong T q1 q2 D_first 12⟩ (fun_mk (st := s_law) l24 c24 k24)
theorem walk {l : PySem.W.OpenLaw} {q : Program} {loose : List Str} {XP : (Str → Option Value) → Heap → Prop} {YP : World → Heap → Prop} {d : DefRec} {K : Params → PySem.W.Frag} (hn : l.most = some 63) (hdf : d.params.defaults = [])
    (hY : ∀ (w : World) (h : Heap), YP w h → (K w.params).In h)
    (F : ∀ (w : World) (mg : Str → Option Value) (fa : Addr) (h : Heap), (K w.params).In h → h.Ns mainGlobals mg → mg d.name = some (.ref fa) →
      ∃ fd : FuncData, (∀ (s : Shared) (u : Value), BindsTo s fd ⟨[u], []⟩ [("_law_script", u)]) ∧ ∀ base : Heap, (K w.params).In base → base.Ns mainGlobals mg → LawAt l.prog w (K w.params) mg base 19 fa fd ["_law_script"] (spLaw (K w.params))) :
    PySem.W.WalkO q loose XP YP l.row.toRowW d [] (fun f vs => PySem.call f vs) :=
  walk_law (n := 63) (k := 19) (x := "_law_script") (sp := fun K => spLaw K) hn (by decide) hdf ⟨rfl, by decide, by decide⟩ hY F fun _ _ a ns hl _ hS => ⟨a, ns, rfl, hS, hl, fun _ => rfl⟩
end K02

open PySem PySem.W PyProof.Rows in
set_option maxRecDepth 100000 in
set_option maxHeartbeats 0 in
theorem PySem.Challenge.cw_goonagain_k02_whole_names_free_set_and_c_holds : PySem.Challenge.rw_goonagain_k02_whole_names_free_set_and_c.Holds := by
  w_on; o_law; k_head; (case hw => w_witness2)
  k_fill
  refine K02.walk (l := PySem.Challenge.rw_goonagain_k02_whole_names_free_set_and_c) rfl rfl (fun w h Y => PySem.W.kIn_of Y) ?F
  case F =>
    intro w mg fa h KX G hmg
    refine' K02.all_mk KX G hmg ?a0 ?l0 ?c0 ?k0 ?a1 ?l1 ?c1 ?k1 ?a2 ?l2 ?c2 ?k2 ?a3 ?l3 ?c3 ?k3 ?a4 ?l4 ?c4 ?k4 ?a5 ?l5 ?c5 ?k5 ?a6 ?l6 ?c6 ?k6 ?a7 ?l7 ?c7 ?k7 ?a8 ?l8 ?c8 ?k8 ?a9 ?l9 ?c9 ?k9 ?a10 ?l10 ?c10 ?k10 ?a11 ?l11 ?c11 ?k11 ?a12 ?l12 ?c12 ?k12 ?a13 ?l13 ?c13 ?k13 ?a14 ?l14 ?c14 ?k14 ?a15 ?l15 ?c15 ?k15 ?a16 ?l16 ?c16 ?k16 ?a17 ?l17 ?c17 ?k17 ?a18 ?l18 ?c18 ?k18 ?a19 ?l19 ?c19 ?k19 ?a20 ?l20 ?c20 ?k20 ?a21 ?l21 ?c21 ?k21 ?a22 ?l22 ?c22 ?k22 ?a23 ?l23 ?c23 ?k23 ?a24 ?l24 ?c24 ?k24 ?z_abs ?z_enumerate ?z_int ?z_len ?z_list ?z_min ?z_range ?z_sorted ?z_tuple ?z_zip ?aBadName ?xBadName ?iBadName ?lBadName ?cBadName ?oBadName ?sBadName
    (case a0 => k_is)
    (case l0 => k_is)
    (case c0 => k_is)
    (case k0 => k_is)
    (case a1 => k_is)
    (case l1 => k_is)
    (case c1 => k_is)
    (case k1 => k_is)
    (case a2 => k_is)
    (case l2 => k_is)
    (case c2 => k_is)
    (case k2 => k_is)
    (case a3 => k_is)
    (case l3 => k_is)
    (case c3 => k_is)
    (case k3 => k_is)
    (case a4 => k_is)
    (case l4 => k_is)
    (case c4 => k_is)
    (case k4 => k_is)
    (case a5 => k_is)
    (case l5 => k_is)
    (case c5 => k_is)
    (case k5 => k_is)
    (case a6 => k_is)
    (case l6 => k_is)
    (case c6 => k_is)
    (case k6 => k_is)
    (case a7 => k_is)
    (case l7 => k_is)
    (case c7 => k_is)
    (case k7 => k_is)
    (case a8 => k_is)
    (case l8 => k_is)
    (case c8 => k_is)
    (case k8 => k_is)
    (case a9 => k_is)
    (case l9 => k_is)
    (case c9 => k_is)
    (case k9 => k_is)
    (case a10 => k_is)
    (case l10 => k_is)
    (case c10 => k_is)
    (case k10 => k_is)
    (case a11 => k_is)
    (case l11 => k_is)
    (case c11 => k_is)
    (case k11 => k_is)
    (case a12 => k_is)
    (case l12 => k_is)
    (case c12 => k_is)
    (case k12 => k_is)
    (case a13 => k_is)
    (case l13 => k_is)
    (case c13 => k_is)
    (case k13 => k_is)
    (case a14 => k_is)
    (case l14 => k_is)
    (case c14 => k_is)
    (case k14 => k_is)
    (case a15 => k_is)
    (case l15 => k_is)
    (case c15 => k_is)
    (case k15 => k_is)
    (case a16 => k_is)
    (case l16 => k_is)
    (case c16 => k_is)
    (case k16 => k_is)
    (case a17 => k_is)
    (case l17 => k_is)
    (case c17 => k_is)
    (case k17 => k_is)
    (case a18 => k_is)
    (case l18 => k_is)
    (case c18 => k_is)
    (case k18 => k_is)
    (case a19 => k_is)
    (case l19 => k_is)
    (case c19 => k_is)
    (case k19 => k_is)
    (case a20 => k_is)
    (case l20 => k_is)
    (case c20 => k_is)
    (case k20 => k_is)
    (case a21 => k_is)
    (case l21 => k_is)
    (case c21 => k_is)
    (case k21 => k_is)
    (case a22 => k_is)
    (case l22 => k_is)
    (case c22 => k_is)
    (case k22 => k_is)
    (case a23 => k_is)
    (case l23 => k_is)
    (case c23 => k_is)
    (case k23 => k_is)
    (case a24 => k_is)
    (case l24 => k_is)
    (case c24 => k_is)
    (case k24 => k_is)
    (case z_abs => k_is)
    (case z_enumerate => k_is)
    (case z_int => k_is)
    (case z_len => k_is)
    (case z_list => k_is)
    (case z_min => k_is)
    (case z_range => k_is)
    (case z_sorted => k_is)
    (case z_tuple => k_is)
    (case z_zip => k_is)
    (case aBadName => k_is)
    (case xBadName => k_is)
    (case iBadName => k_is)
    (case lBadName => k_is)
    (case cBadName => k_is)
    (case oBadName => first | kernel_rfl | rfl)
    (case sBadName => k_is)
