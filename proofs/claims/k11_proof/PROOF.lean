import PyProof.Rows.All
import Wide.All
import OpenK.AllK
import Wide.FinOn
import HandS.ForMost
import HandS.Codes
import HandS.Wide
import HandS.TupAny
import HandS.Conv
import HandS.RevRange
import HandS.SortInts
import HandS.RaiseMore
import HandS.Style
import HandS.Walk
import HandS.Zip
import HandS.More
import KE.GoesEnum
import KE.GoesMore
import KE.KDictList
import KE.KDictSum
import HandS.IsInst
import PySem.Challenge.RW_goonagain_k11_whole_laying_on_and_taking
set_option Elab.async false
set_option maxRecDepth 100000
set_option maxHeartbeats 4000000
/-! common part: what a call keeps, data, repr, the hand of draws -/
namespace Cm
open PySem L2

/-! ### what is kept but at the lists M -/
structure Kp (M : Addr → Prop) (H H' : Hp) : Prop where
  st : ∀ a o, ¬ M a → H a = some o → H' a = some o
  l1 : ∀ a, M a → ∃ xs, H a = some (.lst xs)
  l2 : ∀ a, M a → ∃ xs, H' a = some (.lst xs)
theorem Kp.trans {M : Addr → Prop} {H H1 H2 : Hp} (a : Kp M H H1) (b : Kp M H1 H2) : Kp M H H2 :=
  ⟨fun x o n e => b.st x o n (a.st x o n e), a.l1, b.l2⟩
theorem Kp.of_same {M : Addr → Prop} {H H' : Hp} (h : ∀ a, M a → ∃ xs, H a = some (.lst xs)) (s : Same H H') : Kp M H H' :=
  ⟨fun x o _ e => s x o e, h, fun a m => let ⟨xs, e⟩ := h a m; ⟨xs, s a _ e⟩⟩
theorem Kp.refl {M : Addr → Prop} {H : Hp} (h : ∀ a, M a → ∃ xs, H a = some (.lst xs)) : Kp M H H := .of_same h (Same.refl H)
theorem same_new {H : Hp} {p : Addr} {o : HO} (h : H p = Option.none) : Same H (upd H p o) := fun b u e => by
  rw [upd_ne (ne_of_none e h)]
  exact e
theorem Kp.new {M : Addr → Prop} {H : Hp} (h : ∀ a, M a → ∃ xs, H a = some (.lst xs)) {p : Addr} {o : HO} (hp : H p = Option.none) : Kp M H (upd H p o) :=
  .of_same h (same_new hp)
theorem Kp.put {M : Addr → Prop} {H : Hp} (h : ∀ a, M a → ∃ xs, H a = some (.lst xs)) {p : Addr} {ys : List V} (hp : M p) : Kp M H (upd H p (.lst ys)) :=
  ⟨fun x o n e => by
    rw [upd_ne (show x ≠ p by rintro rfl; exact n hp)]
    exact e, h, fun a m => by
    by_cases q : a = p
    · subst q
      exact ⟨ys, upd_same⟩
    · rw [upd_ne q]
      exact h a m⟩
theorem Kp.wider {M N : Addr → Prop} {H H' : Hp} (k : Kp M H H') (h : ∀ a, M a → N a) (l : ∀ a, N a → ∃ xs, H a = some (.lst xs)) : Kp N H H' :=
  ⟨fun x o n e => k.st x o (fun m => n (h x m)) e, l, fun a m => by
    by_cases q : M a
    · exact k.l2 a q
    · obtain ⟨xs, e⟩ := l a m
      exact ⟨xs, k.st a _ q e⟩⟩
theorem Kp.tup {M : Addr → Prop} {K : PySem.W.Frag} {H H' : Hp} {a : Addr} {xs : List V} (k : Kp M H H') (h : SqT K H a xs) : SqT K H' a xs := by
  have no : ∀ o, H a = some o → (∀ ys, o ≠ .lst ys) → ¬ M a := fun o e n m => by
    obtain ⟨ys, e2⟩ := k.l1 a m
    rw [e] at e2
    exact n ys (Option.some.inj e2)
  rcases h with (h | ⟨o, h⟩) | h
  · exact .inl (.inl (k.st _ _ (no _ h fun _ z => nomatch z) h))
  · exact .inl (.inr ⟨o, k.st _ _ (no _ h fun _ z => nomatch z) h⟩)
  · exact .inr h
theorem Kp.free {M : Addr → Prop} {H H' : Hp} {p : Addr} (k : Kp M H H') (h : H' p = Option.none) : H p = Option.none := by
  cases e : H p with
  | none => rfl
  | some o =>
    by_cases q : M p
    · obtain ⟨xs, e2⟩ := k.l2 p q
      rw [h] at e2
      cases e2
    · have := k.st p o q e
      rw [h] at this
      cases this
theorem Kp.m_of {M : Addr → Prop} {H H' : Hp} {p : Addr} (k : Kp M H H') (h : H p = Option.none) : ¬ M p := fun m => by
  obtain ⟨xs, e⟩ := k.l1 p m
  rw [h] at e
  cases e

/-! ### data -/
mutual
/-- no list, no dict in it -/
def flatD : PyData → Bool
  | .list _ => false
  | .dict _ => false
  | .tuple xs => flatDs xs
  | _ => true
def flatDs : List PyData → Bool
  | [] => true
  | x :: xs => flatD x && flatDs xs
end
mutual
theorem dp_keep {K : PySem.W.Frag} {H H' : Hp} (k : ∀ a xs, SqT K H a xs → SqT K H' a xs) : ∀ (d : PyData) (v : V), flatD d = true → Dp K H v d → Dp K H' v d
  | .none, _, _, h => by cases h; exact .non
  | .bool _, _, _, h => by cases h; exact .bl _
  | .int _, _, _, h => by cases h; exact .int _
  | .str _, _, _, h => by cases h; exact .str _
  | .list _, _, f, _ => by simp [flatD] at f
  | .dict _, _, f, _ => by simp [flatD] at f
  | .tuple ds, _, f, h => by
    cases h with
    | tup hs ha => exact .tup (k _ _ hs) (dps_keep k ds _ (by simpa [flatD] using f) ha)
theorem dps_keep {K : PySem.W.Frag} {H H' : Hp} (k : ∀ a xs, SqT K H a xs → SqT K H' a xs) : ∀ (ds : List PyData) (vs : List V), flatDs ds = true → DpAll K H vs ds → DpAll K H' vs ds
  | [], _, _, h => by cases h; exact .nil
  | d :: ds, _, f, h => by
    cases h with
    | cons h1 h2 =>
      have f' : flatD d = true ∧ flatDs ds = true := by simpa [flatDs] using f
      exact .cons (dp_keep k d _ f'.1 h1) (dps_keep k ds _ f'.2 h2)
end
mutual
/-- all lists in it are kept as well -/
theorem dp_same {K : PySem.W.Frag} {H H' : Hp} (s : Same H H') : ∀ (d : PyData) (v : V), Dp K H v d → Dp K H' v d
  | .none, _, h => by cases h; exact .non
  | .bool _, _, h => by cases h; exact .bl _
  | .int _, _, h => by cases h; exact .int _
  | .str _, _, h => by cases h; exact .str _
  | .dict _, _, h => by cases h
  | .list ds, _, h => by
    cases h with
    | lst hs ha => exact .lst (s.seq hs) (dps_same s ds _ ha)
  | .tuple ds, _, h => by
    cases h with
    | tup hs ha =>
      refine .tup ?_ (dps_same s ds _ ha)
      rcases hs with (h | ⟨o, h⟩) | h
      · exact .inl (.inl (s _ _ h))
      · exact .inl (.inr ⟨o, s _ _ h⟩)
      · exact .inr h
theorem dps_same {K : PySem.W.Frag} {H H' : Hp} (s : Same H H') : ∀ (ds : List PyData) (vs : List V), DpAll K H vs ds → DpAll K H' vs ds
  | [], _, h => by cases h; exact .nil
  | d :: ds, _, h => by
    cases h with
    | cons h1 h2 => exact .cons (dp_same s d _ h1) (dps_same s ds _ h2)
end
theorem DpAll.len {K : PySem.W.Frag} {H : Hp} : ∀ {vs : List V} {ds : List PyData}, DpAll K H vs ds → vs.length = ds.length
  | _, _, .nil => rfl
  | _, _, .cons _ h => congrArg (· + 1) (DpAll.len h)
theorem DpAll.at {K : PySem.W.Frag} {H : Hp} : ∀ {vs : List V} {ds : List PyData} {i : Nat} {d : PyData}, DpAll K H vs ds → ds[i]? = some d → ∃ v, vs[i]? = some v ∧ Dp K H v d
  | _, _, 0, d, .cons h _, e => by
    simp at e
    subst e
    exact ⟨_, rfl, h⟩
  | _, _, i + 1, d, .cons _ h, e => by
    obtain ⟨v, h1, h2⟩ := DpAll.at (i := i) (d := d) h (by simpa using e)
    exact ⟨v, by simpa using h1, h2⟩
theorem DpAll.atV {K : PySem.W.Frag} {H : Hp} : ∀ {vs : List V} {ds : List PyData} {i : Nat} {v : V}, DpAll K H vs ds → vs[i]? = some v → ∃ d, ds[i]? = some d ∧ Dp K H v d
  | _, _, 0, d, .cons h _, e => by
    simp at e
    subst e
    exact ⟨_, rfl, h⟩
  | _, _, i + 1, d, .cons _ h, e => by
    obtain ⟨v, h1, h2⟩ := DpAll.atV (i := i) (v := d) h (by simpa using e)
    exact ⟨v, by simpa using h1, h2⟩
theorem DpAll.snoc {K : PySem.W.Frag} {H : Hp} {v : V} {d : PyData} (h : Dp K H v d) : ∀ {vs : List V} {ds : List PyData}, DpAll K H vs ds → DpAll K H (vs ++ [v]) (ds ++ [d])
  | _, _, .nil => .cons h .nil
  | _, _, .cons a b => .cons a (DpAll.snoc h b)
theorem DpAll.app {K : PySem.W.Frag} {H : Hp} : ∀ {vs ws : List V} {ds es : List PyData}, DpAll K H vs ds → DpAll K H ws es → DpAll K H (vs ++ ws) (ds ++ es)
  | _, _, _, _, .nil, h => h
  | _, _, _, _, .cons a b, h => .cons a (DpAll.app b h)
theorem DpAll.take {K : PySem.W.Frag} {H : Hp} (n : Nat) : ∀ {vs : List V} {ds : List PyData}, DpAll K H vs ds → DpAll K H (vs.take n) (ds.take n) := by
  induction n with
  | zero => intro vs ds _; exact .nil
  | succ n ih =>
    intro vs ds h
    cases h with
    | nil => exact .nil
    | cons a b => exact .cons a (ih b)
theorem DpAll.drop {K : PySem.W.Frag} {H : Hp} (n : Nat) : ∀ {vs : List V} {ds : List PyData}, DpAll K H vs ds → DpAll K H (vs.drop n) (ds.drop n) := by
  induction n with
  | zero => intro vs ds h; exact h
  | succ n ih =>
    intro vs ds h
    cases h with
    | nil => exact .nil
    | cons a b => exact ih b
theorem DpAll.rev {K : PySem.W.Frag} {H : Hp} : ∀ {vs : List V} {ds : List PyData}, DpAll K H vs ds → DpAll K H vs.reverse ds.reverse
  | _, _, .nil => .nil
  | _, _, .cons a b => by
    rw [List.reverse_cons, List.reverse_cons]
    exact DpAll.snoc a (DpAll.rev b)
theorem dpAll_ints {K : PySem.W.Frag} {H : Hp} : ∀ ns : List Int, DpAll K H (ns.map V.int) (ns.map PyData.int)
  | [] => .nil
  | n :: ns => .cons (.int n) (dpAll_ints ns)

/-! ### repr of data -/
/-- what repr sees at a value: data of lists and tuples, or a dict of int keys whose values are data without lists -/
def Rp (K : PySem.W.Frag) (H : Hp) (x : V) (d : PyData) : Prop :=
  Dp K H x d ∨ ∃ (a : Addr) (kvs : List (Key × V)) (es : List (Int × PyData)), x = .ref a ∧ H a = some (.dK kvs) ∧ kvs.map (·.1) = es.map (fun e => Sum.inl e.1) ∧
    DpAll K H (kvs.map (·.2)) (es.map (·.2)) ∧ flatDs (es.map (·.2)) = true ∧ d = .dict (es.map fun e => (.int e.1, e.2))
mutual
/-- short leaves -/
def okD : PyData → Bool
  | .int i => decide (i.natAbs < 10 ^ 12)
  | .str x => PyData.leavesShort 13 (.str x)
  | .list xs => okDs xs
  | .tuple xs => okDs xs
  | .dict kvs => okDk kvs
  | _ => true
def okDs : List PyData → Bool
  | [] => true
  | x :: xs => okD x && okDs xs
def okDk : List (PyData × PyData) → Bool
  | [] => true
  | (k, v) :: r => okD k && okD v && okDk r
end
mutual
theorem okD_show : ∀ d : PyData, okD d = true → d.showable = true ∧ d.leavesShort 13 = true
  | .none, _ => by constructor <;> first | rfl | decide +kernel | simp [PyData.showable, PyData.leavesShort]
  | .bool b, _ => by cases b <;> constructor <;> first | rfl | decide +kernel
  | .int i, h => by
    have h' : i.natAbs < 10 ^ 12 := by simpa [okD] using h
    refine ⟨?_, ?_⟩
    · have : i.natAbs.log2 < 1920 := by
        by_cases z : i.natAbs = 0
        · rw [z]; decide
        · refine Nat.lt_of_lt_of_le ((Nat.log2_lt z).mpr (show i.natAbs < 2 ^ 64 from Nat.lt_of_lt_of_le h' (by decide))) (by decide)
      simpa [PyData.showable] using this
    · have := PyData.shown_int_le h'
      simpa [PyData.leavesShort] using this
  | .str x, h => by
    exact ⟨by simp [PyData.showable], by simpa only [okD] using h⟩
  | .list xs, h => by
    have := okDs_show xs (by simpa [okD] using h)
    exact ⟨by simpa [PyData.showable] using this.1, by simpa [PyData.leavesShort] using this.2⟩
  | .tuple xs, h => by
    have := okDs_show xs (by simpa [okD] using h)
    exact ⟨by simpa [PyData.showable] using this.1, by simpa [PyData.leavesShort] using this.2⟩
  | .dict kvs, h => by
    have := okDk_show kvs (by simpa [okD] using h)
    exact ⟨by simpa [PyData.showable] using this.1, by simpa [PyData.leavesShort] using this.2⟩
theorem okDs_show : ∀ xs : List PyData, okDs xs = true → PyData.showableAll xs = true ∧ PyData.leavesShortAll 13 xs = true
  | [], _ => ⟨by simp [PyData.showableAll], by simp [PyData.leavesShortAll]⟩
  | x :: xs, h => by
    have h' : okD x = true ∧ okDs xs = true := by simpa [okDs] using h
    have a := okD_show x h'.1
    have b := okDs_show xs h'.2
    exact ⟨by simp [PyData.showableAll, a.1, b.1], by simp [PyData.leavesShortAll, a.2, b.2]⟩
theorem okDk_show : ∀ xs : List (PyData × PyData), okDk xs = true → PyData.showableKv xs = true ∧ PyData.leavesShortKv 13 xs = true
  | [], _ => ⟨by simp [PyData.showableKv], by simp [PyData.leavesShortKv]⟩
  | (k, v) :: xs, h => by
    have h' : (okD k = true ∧ okD v = true) ∧ okDk xs = true := by simpa [okDk] using h
    have a := okD_show k h'.1.1
    have b := okD_show v h'.1.2
    have c := okDk_show xs h'.2
    exact ⟨by simp [PyData.showableKv, a.1, b.1, c.1], by simp [PyData.leavesShortKv, a.2, b.2, c.2]⟩
end
mutual
theorem no_as {h : Heap} : ∀ (d : PyData) (u : Value) (as : List Addr), flatD d = true → Reads h u d as → as = []
  | .none, _, _, _, r => by cases r; rfl
  | .bool _, _, _, _, r => by cases r; rfl
  | .int _, _, _, _, r => by cases r; rfl
  | .str _, _, _, _, r => by cases r; rfl
  | .list _, _, _, f, _ => by simp [flatD] at f
  | .dict _, _, _, f, _ => by simp [flatD] at f
  | .tuple ds, _, _, f, r => by
    cases r with
    | tuple _ _ _ ha => exact no_ass ds _ _ (by simpa [flatD] using f) ha
theorem no_ass {h : Heap} : ∀ (ds : List PyData) (us : List Value) (as : List Addr), flatDs ds = true → ReadsAll h us ds as → as = []
  | [], _, _, _, r => by cases r; rfl
  | d :: ds, _, _, f, r => by
    have f' : flatD d = true ∧ flatDs ds = true := by simpa [flatDs] using f
    cases r with
    | cons r1 r2 => rw [no_as d _ _ f'.1 r1, no_ass ds _ _ f'.2 r2]; rfl
end
mutual
theorem dp_nodict {K : PySem.W.Frag} {H : Hp} : ∀ (d : PyData) (v : V), Dp K H v d → d.hasDict = false
  | .none, _, _ => by simp [PyData.hasDict]
  | .bool _, _, _ => by simp [PyData.hasDict]
  | .int _, _, _ => by simp [PyData.hasDict]
  | .str _, _, _ => by simp [PyData.hasDict]
  | .dict _, _, h => by cases h
  | .list ds, _, h => by
    cases h with
    | lst _ ha => simpa [PyData.hasDict] using dps_nodict ds _ ha
  | .tuple ds, _, h => by
    cases h with
    | tup _ ha => simpa [PyData.hasDict] using dps_nodict ds _ ha
theorem dps_nodict {K : PySem.W.Frag} {H : Hp} : ∀ (ds : List PyData) (vs : List V), DpAll K H vs ds → PyData.hasDictAll ds = false
  | [], _, _ => by simp [PyData.hasDictAll]
  | d :: ds, _, h => by
    cases h with
    | cons h1 h2 => simp [PyData.hasDictAll, dp_nodict d _ h1, dps_nodict ds _ h2]
end
theorem flatDs_ints : ∀ ks : List Int, flatDs (ks.map PyData.int) = true
  | [] => rfl
  | k :: ks => by simp [flatDs, flatD, flatDs_ints ks]
section
variable {X : Cx}
theorem dict_keys {prog : Program} {w : World} {h : Heap} : ∀ (es : List (Int × PyData)) (kvs : List (Key × V)) (l : List DictEntry) (vs : List (Key × Value)), kvs.map (·.1) = es.map (fun e => Sum.inl e.1) → KV kvs vs → Pairs (mixKind prog w) l vs →
    ReadsAll h (l.map (·.key)) (es.map fun e => PyData.int e.1) [] ∧ Vals (kvs.map (·.2)) (l.map (·.val))
  | [], kvs, l, vs, hk, r, p => by
    cases kvs with
    | cons a b => simp at hk
    | nil =>
      cases r
      cases p
      exact ⟨.nil, .nil⟩
  | e :: es, kvs, l, vs, hk, r, p => by
    cases kvs with
    | nil => simp at hk
    | cons a b =>
      simp only [List.map_cons, List.cons.injEq] at hk
      cases r with
      | @cons _ v _ vs' r1 r2 =>
        cases p with
        | @cons en _ l' _ p1 p2 p3 =>
          obtain ⟨q1, q2⟩ := dict_keys es b l' vs' hk.2 r2 p3
          have p1' : keyIs v.1 en.key = true := p1
          rw [← r1.1, hk.1] at p1'
          obtain ⟨t, et⟩ := Value.isInt_shape (k := e.1) (v := en.key) p1'
          refine ⟨?_, .cons ?_ q2⟩
          · rw [List.map_cons, List.map_cons, et]
            exact ReadsAll.cons (as := []) (bs := []) (Reads.int _ _) q1
          · show RelV a.2 en.val
            rw [p2]
            exact r1.2
def rRepr (K : PySem.W.Frag) : List V → Hp → VK → Prop := fun xs H Q => ∃ x d, xs = [x] ∧ Rp K H x d ∧ okD d = true ∧ d.depth ≤ 60 ∧ d.weight ≤ 2 ^ 20 ∧ Q (.str d.shown) H
theorem call_reprD (hg : X.A.guards = some []) (hu : X.A.units + 64 < cLine) : CallR X (.builtin "repr") (rRepr X.K) := by
  intro pins s σ H xs us Q I r h
  obtain ⟨x, d, rfl, hd, ok, hdep, hw, q⟩ := h
  obtain ⟨u, rfl, rx⟩ := vals1 r
  obtain ⟨hsh, hls⟩ := okD_show d ok
  have hsz : d.shown.length ≤ sizeLine := PyData.shown_fits (by decide) (by decide) hls hw
  have fin : ∀ (a : Addr) (as : List Addr), u = .ref a → Reads s.heap u d as → (d.hasDict = true → sysModules ∉ as) → wpAny (model X.prog X.w) X.A (call (.builtin "repr") [u]) (EP X pins σ Q) X.xe s := fun a as e rd no => by
    subst e
    exact repr_of_reads' rd hsh no hg (by omega) (fun _ _ e => e) (fun h' u tk k => ⟨.str _, H, I.kept k, ⟨_, rfl⟩, q⟩) hsz
  rcases hd with hd | ⟨a, kvs, es, rfl, ha, hk, hv, hf, rfl⟩
  · obtain ⟨as, rd⟩ := Dp.reads I d x u hd rx
    cases hd with
    | non => cases rx; exact P.repr_of_none ⟨.str _, H, I.tok _, ⟨_, rfl⟩, q⟩
    | bl b => cases rx; exact P.repr_of_bool ⟨.str _, H, I.tok _, ⟨_, rfl⟩, by cases b <;> exact q⟩
    | int i =>
      obtain ⟨t, rfl⟩ := rx
      exact P.repr_of_int (by simpa [PyData.showable] using hsh) ⟨.str _, H, I.tok _, ⟨_, rfl⟩, by simpa [PyData.shown] using q⟩
    | str z =>
      obtain ⟨t, rfl⟩ := rx
      exact P.repr_of_str ⟨.str _, H, I.tok _, ⟨_, rfl⟩, by simpa [PyData.shown] using q⟩ (by simpa [PyData.shown] using hsz)
    | lst hs ha =>
      have nd := dp_nodict _ _ (Dp.lst hs ha)
      cases rx
      exact fin _ as rfl rd fun z => by rw [nd] at z; cases z
    | tup hs ha =>
      have nd := dp_nodict _ _ (Dp.tup hs ha)
      cases rx
      exact fin _ as rfl rd fun z => by rw [nd] at z; cases z
  · cases rx
    obtain ⟨_, hsys, vs, rv, ob, dl, ep, e1, e2, e3, _, e5, _⟩ := (show kvs.length ≤ sizeLine ∧ (a == sysModules) = false ∧ ∃ vs, KV kvs vs ∧ s.heap.DictOf (mixKind X.prog X.w) a vs from dk_of I.hok ha)
    obtain ⟨q1, q2⟩ := dict_keys es kvs dl.toList vs hk rv e5
    obtain ⟨bs, q3⟩ := Dp.readsAll I _ _ _ hv q2
    obtain rfl := no_ass _ _ _ hf q3
    have rd : Reads s.heap (.ref a) (.dict (es.map fun e => (PyData.int e.1, e.2))) (a :: [] ++ []) :=
      .dict e1 e2.1 e3 (by rw [List.map_map]; exact q1) (by rw [List.map_map]; exact q3)
    exact fin a _ rfl rd fun _ m => by
      have : sysModules = a := by simpa using m
      rw [← this] at hsys
      simp at hsys
end
end Cm

/-! a law's call whose body may ask repr: nothing is under repr there -/
namespace Cm
open PySem L2 PySem.Spec PyProof.Rows
section
variable {P : Program} {w : World} {K : PySem.W.Frag} {mg : Str → Option Value} {base : Heap}
/-- the promise of the law's def, where no repr is under way -/
def LawAt (P : Program) (w : World) (K : PySem.W.Frag) (mg : Str → Option Value) (base : Heap) (k : Nat) (f : Addr) (fd : FuncData) (ps : List Str) (sp : Sp) : Prop :=
  ∀ (A : Around) (outer : List Env) (s : Shared) (H : Hp) (args : Args) (us : List Value) (vs : List V) (Q : VK) (E : XK),
    A.guards = some [] → Room k A → Env0 P w K mg base A outer s H → BindsTo s fd args (ps.zip us) → Vals vs us → sp vs H Q E →
      codeAny (model P w) A (.call (.ref f) args) (CR CX0 outer P w H s Q E) s
theorem lawAt_of {x : Str} {st : Stmt} {f : Addr} {fd : FuncData} {N ps : List Str} {k : Nat} {sp : Sp} (F : Fun K x x st f fd) (S : FnScope N ps (defScope st))
    (len : ∀ vs H Q E, sp vs H Q E → vs.length = ps.length)
    (hb : ∀ (cdv : Value) (A : Around) (outer : List Env) (s : Shared) (H : Hp) (vs : List V) (Q : VK) (E : XK), A.guards = some [] →
      Room k (A.deeper (envOfC x (defScope st) s.heap.objs.size f cdv)) → sp vs H Q E →
      ∃ t, PSs (cxOf CX0 P w K mg base N x (defScope st) f cdv A outer s H E).nox (defBody st) t ∧ t { nx := fun _ H' => Q .non H', rt := Q } (start N vs) H) :
    LawAt P w K mg base (k + 1) f fd ps sp := by
  intro A outer s H args us vs Q E hg hr e0 hbind rv hs
  obtain ⟨oc, od, kV, doc, pm, an, cdv, ct, osl, rfl, lk, hcd⟩ := F.ex
  have keeps : ∀ b o, base.get? b = some o → s.heap.get? b = some o := fun b o e => (e0.bs b o e).1
  have KX : K.In s.heap := e0.mod.kin.keeps keeps
  refine codeAny_call_function hr.depth (KX _ _ lk) rfl S.co S.gen rfl (PySem.W.codeRec_of KX hcd) (hbind _ _ _ _ ?_)
  refine wpAny_newFunctionEnv_cells S.kind (fun z hz => ?_) fun env he s1 xc => ?_
  · rcases S.par z.1 (List.of_mem_zip (show (z.1, z.2) ∈ ps.zip us from hz)).1 with q | q
    · exact Or.inl q
    · exact Or.inr ⟨q, PySem.W.cellsFrom_some _ _ _ (Or.inl q)⟩
  · subst he
    refine ⟨(e0.mod.nolimit.keeps keeps).keeps xc.toInCall.keep, codeAny_func ?_⟩
    obtain ⟨t, ht, hq⟩ := hb cdv A outer s H vs Q E hg (hr.deeper _) hs
    have I := inv_start (E := E) (CX := CX0) S hr.hd e0 (len _ _ _ _ hs) rv xc
    refine wpAny_mono (ht.nox.run [] s1 (start N vs) H _ I hq) (fun fl s' hz => ?_) fun e s' hz => hz
    cases fl with
    | ret u =>
      obtain ⟨v, _, H', J, r, q⟩ := hz
      exact ⟨v, H', J.os, J.bare, J.base, J.hok, r, q⟩
    | next =>
      obtain ⟨_, H', J, q⟩ := hz
      exact ⟨V.non, H', J.os, J.bare, J.base, J.hok, rfl, q⟩
    | brk =>
      obtain ⟨_, _, _, q⟩ := hz
      exact q.elim
    | cont =>
      obtain ⟨_, _, _, q⟩ := hz
      exact q.elim
end
/-- the script tracked at a: known to the object, or one of the module's own -/
def scriptH (a : Addr) (o : Obj) (ns : List Int) : Hp := fun b => if b = a then some (.frz o (.lst (ns.map V.int))) else Option.none
theorem law_goes {P : Program} {w : World} {K : PySem.W.Frag} {mg mb : Str → Option Value} {k : Nat} {fa a : Addr} {fd : FuncData} {x : Str} {sp : Sp} {s₁ : Shared} {vs : List Value} {ns : List Int}
    (KX : K.In s₁.heap) (hns : s₁.heap.Ns mainGlobals mg) (hb : s₁.heap.Ns builtinsNs mb)
    (hbb : ∀ x : Str, x ≠ "__name__" → mb x = bootBuiltins x) (hlim : s₁.heap.NoLimit) (hg : s₁.gens = #[])
    (ha : s₁.heap.get? a = some { cls := .type "list", data := .seq vs.toArray }) (hi : IntsAre vs ns) (hl : ns.length ≤ sizeLine) (hr : Room k callerA)
    (F : ∀ b : Heap, K.In b → b.Ns mainGlobals mg → LawAt P w K mg b k fa fd [x] sp)
    (hbind : ∀ (s : Shared) (u : Value), BindsTo s fd ⟨[u], []⟩ [(x, u)])
    (hsp : ∀ H : Hp, Only H → SqL K H a (ns.map V.int) → sp [.ref a] H (fun v _ => v = .bl true) fun _ _ _ => False) :
    codeAny (model P w) callerA (.call (.ref fa) ⟨[.ref a], []⟩)
      (fun r s' => r = .ok (.ret (.bool true)) ∧ OldK s₁.heap s'.heap ∧ s'.os = s₁.os ∧ AllBare s'.gens) s₁ := by
  have rv := vals_ints hi
  have main : ∀ H : Hp, Only H → SqL K H a (ns.map V.int) → HOk P w H s₁.heap → (∀ b, H b ≠ Option.none → b = a ∧ K.lookup a = Option.none) →
      codeAny (model P w) callerA (.call (.ref fa) ⟨[.ref a], []⟩)
        (fun r s' => r = .ok (.ret (.bool true)) ∧ OldK s₁.heap s'.heap ∧ s'.os = s₁.os ∧ AllBare s'.gens) s₁ := by
    intro H hO hS hok hA
    have free_ns : ∀ {b : Addr} {o : Obj} {es : Array DictEntry} {ep : Nat}, s₁.heap.get? b = some o → o.data = .dict es ep → H b = Option.none := fun {b o es ep} e d => by
      by_cases q : H b = Option.none
      · exact q
      · obtain ⟨rfl, _⟩ := hA b q
        rw [ha] at e
        cases e
        cases d
    have ns_of : ∀ {b : Addr} {m : Str → Option Value}, s₁.heap.Ns b m → (hidT s₁.heap H).Ns b m := fun h => by
      obtain ⟨o, es, ep, e, d, r⟩ := h
      exact ⟨o, es, ep, hidT_get e (free_ns e d), d, r⟩
    have kin : K.In (hidT s₁.heap H) := fun b o e => hidT_get (KX b o e) (by
      by_cases q : H b = Option.none
      · exact q
      · obtain ⟨rfl, q2⟩ := hA b q
        rw [q2] at e
        cases e)
    obtain ⟨mc, l1, l2⟩ := hlim
    have e0 : Env0 P w K mg (hidT s₁.heap H) callerA [] s₁ H :=
      { frames := rfl, mod := ⟨kin, ns_of hns, ⟨mb, ns_of hb, hbb⟩, ⟨mc, ns_of l1, l2⟩⟩, bs := fun b o e => of_hidT e, bsz := Nat.le_of_eq (hidT_size _ _),
        funs := trivial, frf := fun b z => absurd (show b ∈ ([] : List Addr) from z) (by simp), hok := hok, bare := .of_eq hg }
    have run := F _ kin (ns_of hns) callerA [] s₁ H ⟨[.ref a], []⟩ [.ref a] [.ref a] _ _ rfl hr e0 (hbind s₁ (.ref a)) (.cons rfl .nil) (hsp H hO hS)
    refine codeAny_mono run fun r s' h => ?_
    rcases r with e | fl
    · exact False.elim h
    · cases fl with
      | ret u =>
        obtain ⟨v, H', os, bare, un, hok', r', q⟩ := h
        have q' : v = .bl true := q
        subst q'
        have eu : u = Value.bool true := r'
        subst eu
        refine ⟨rfl, OldK.of_keep fun b o e => ?_, os, bare⟩
        by_cases q : H b = Option.none
        · exact un.keep b o e q (fun z => absurd (show b ∈ ([] : List Addr) from z) (by simp)) (by simp)
        · rcases hO b with z | ⟨ob, xs, z⟩
          · exact absurd z q
          · have e1 := (hok b _ z).1
            have e2 := (hok' b _ (un.frzs b ob _ z)).1
            rw [e] at e1
            cases e1
            exact e2
      | next => exact False.elim h
      | brk => exact False.elim h
      | cont => exact False.elim h
  by_cases hk : K.lookup a = Option.none
  · refine main (scriptH a { cls := .type "list", data := .seq vs.toArray } ns) (fun b => ?_) (.inl (.inr ⟨_, if_pos rfl⟩)) (fun b u z => ?_) fun b z => ?_
    · by_cases q : b = a
      · exact .inr ⟨_, _, if_pos q⟩
      · exact .inl (if_neg q)
    · unfold scriptH at z
      by_cases q : b = a
      · rw [if_pos q] at z
        cases z
        subst q
        exact ⟨ha, by rw [List.length_map]; exact hl, vs, _, rv, ha⟩
      · rw [if_neg q] at z
        cases z
    · by_cases q : b = a
      · exact ⟨q, hk⟩
      · exact absurd (if_neg q) z
  · obtain ⟨o, ho⟩ : ∃ o, K.lookup a = some o := by
      cases e : K.lookup a with
      | none => exact absurd e hk
      | some o => exact ⟨o, rfl⟩
    have e := KX a o ho
    rw [ha] at e
    cases e
    refine main (fun _ => Option.none) (fun _ => .inl rfl) ?_ (fun b u z => by cases z) fun b z => absurd rfl z
    exact .inr ⟨_, vs.toArray, _, ho, rfl, rfl, rfl, by rw [List.size_toArray, hi.length]; exact hl, by simpa using rv⟩
theorem walk_law {l : PySem.W.OpenLaw} {n k : Nat} {q : Program} {loose : List Str} {XP : (Str → Option Value) → Heap → Prop} {YP : World → Heap → Prop} {d : DefRec} {K : Params → PySem.W.Frag} {sp : PySem.W.Frag → Sp} {x : Str}
    (hn : l.most = some n) (hn2 : n ≤ sizeLine) (hdf : d.params.defaults = []) (hr : Room k callerA)
    (hY : ∀ (w : World) (h : Heap), YP w h → (K w.params).In h)
    (F : ∀ (w : World) (mg : Str → Option Value) (fa : Addr) (h : Heap), (K w.params).In h → h.Ns mainGlobals mg → mg d.name = some (.ref fa) →
      ∃ fd : FuncData, (∀ (s : Shared) (u : Value), BindsTo s fd ⟨[u], []⟩ [(x, u)]) ∧
        ∀ b : Heap, (K w.params).In b → b.Ns mainGlobals mg → LawAt l.prog w (K w.params) mg b k fa fd [x] (sp (K w.params)))
    (hsp : ∀ (K : PySem.W.Frag) (H : Hp) (a : Addr) (ns : List Int), ns.length ≤ n → Only H → SqL K H a (ns.map V.int) → sp K [.ref a] H (fun v _ => v = .bl true) fun _ _ _ => False) :
    PySem.W.WalkO q loose XP YP l.row.toRowW d [] (fun f vs => PySem.call f vs) := by
  refine Att.attach_call hn hdf fun w s₀ s₁ mg mb fa o pm cd doc a vs ns G Y ho hd hcd hmg hobj hints hlen hg => ?_
  obtain ⟨fd, hb, hF⟩ := F w mg fa _ (hY w _ Y) G.T.g hmg
  exact law_goes (hY w _ Y) G.T.g G.T.b G.T.builtins G.T.nolimit hg hobj hints (Nat.le_trans hlen hn2) hr hF hb fun H hO hS => hsp _ H a ns hlen hO hS
end Cm

/-! defs that are called by name; the hand of draws -/
namespace Cm
open PySem L2 PySem.Spec PyProof.Rows
structure Cl (P : Program) (w : World) (K : PySem.W.Frag) (mg : Str → Option Value) (base : Heap) (k : Nat) (x : Str) (sp : Sp) : Prop where
  ex : ∃ (f : Addr) (fd : FuncData) (ps : List Str), FnOk P w K mg base CX0 k f fd ps sp ∧ mg x = some (.ref f) ∧ PySem.W.keepIn K (.ref f) = true ∧ Binds K fd ps []
/-- where a def of the text stands -/
structure At (K : PySem.W.Frag) (mg : Str → Option Value) (x : Str) (st : Stmt) (ps : List Str) : Prop where
  ex : ∃ (f : Addr) (fd : FuncData), Fun K x x st f fd ∧ mg x = some (.ref f) ∧ Binds K fd ps []
section
variable {P : Program} {w : World} {K : PySem.W.Frag} {mg : Str → Option Value} {base : Heap}
theorem cl_of {x : Str} {st : Stmt} {N ps : List Str} {k : Nat} {sp : Sp} (T : At K mg x st ps) (S : FnScope N ps (defScope st))
    (len : ∀ vs H Q E, sp vs H Q E → vs.length = ps.length)
    (hb : ∀ (f : Addr) (cdv : Value) (A : Around) (outer : List Env) (s : Shared) (H : Hp) (vs : List V) (Q : VK) (E : XK),
      Room k (A.deeper (envOfC x (defScope st) s.heap.objs.size f cdv)) → sp vs H Q E →
      ∃ t, PSs (cxOf CX0 P w K mg base N x (defScope st) f cdv A outer s H E).nox (defBody st) t ∧ t { nx := fun _ H' => Q .non H', rt := Q } (start N vs) H) :
    Cl P w K mg base (k + 1) x sp := by
  obtain ⟨f, fd, F, hm, b⟩ := T.ex
  exact ⟨f, fd, ps, F.ok S len (hb f), hm, F.kp, b⟩
end
section
variable {X : Cx} {j k : Nat} {x : Str} {sp : Sp} {e : Expr} {es : List Expr} {t : TA} {p pos : Pos}
theorem pe_c (c : Cl X.prog X.w X.K X.mg X.base k x sp) (hr : Room j X.A) (hk : k ≤ j) (hg : Gl X x) (ha : PA X (e :: es) t)
    (hdb : (x == ("__debug__" : Str)) = false := by decide) (he : starEach (e :: es) X.env = (false, eval e X.env) :: starEach es X.env := by rfl)
    (hpl : (backTo pos (starEach es X.env)).any (·.1) = false := by rfl) : PE X (.Call (.Name x p) (e :: es) [] pos) (tCall sp [] E0 t) := by
  obtain ⟨f, fd, ps, F, hm, kp, b⟩ := c.ex
  exact pe_call F (hr.mono hk) hg hm kp b .nil pass0 ha hdb he hpl
end

theorem map_at {α β : Type} {f : α → β} {xs : List α} {i : Nat} {y : β} (h : (xs.map f)[i]? = some y) : ∃ x, xs[i]? = some x ∧ y = f x := by
  rw [List.getElem?_map] at h
  obtain ⟨x, a, b⟩ := Option.map_eq_some_iff.mp h
  exact ⟨x, a, b.symm⟩

/-! ### a word between a statement and what follows it -/
def tMid (t u : TS) : TS := fun D σ H => ∃ M : L2.St → Hp → Prop, t { D with nx := M } σ H ∧ ∀ σ' H', M σ' H' → u D σ' H'
theorem pss_mid {X : Cx} {st : Stmt} {rest : List Stmt} {t u : TS} (h1 : PS X st t) (h2 : PSs X rest u) : PSs X (st :: rest) (tMid t u) :=
  ⟨fun pins s σ H D I h => by
    obtain ⟨M, hm, hu⟩ := h
    refine wpAny_execs_cons (thn (h1.run pins s σ H { D with nx := M } I hm) fun fl s1 q => ?_)
    cases fl with
    | next =>
      obtain ⟨σ', H', I', q⟩ := q
      exact h2.run pins s1 σ' H' D I' (hu σ' H' q)
    | ret v => exact q
    | brk => exact q
    | cont => exact q⟩

/-! ### the hand of draws -/
/-- a hand stands at h: the cells, how many were taken, a great cell that is drawn from, a sum -/
def Hand (H : Hp) (h c : Addr) : Prop := ∃ (cells : List Int) (i b t : Int), H h = some (.lst [.ref c, .int i, .int b, .int t]) ∧ H c = some (.lst (cells.map V.int)) ∧ c ≠ h ∧ 0 ≤ i ∧ cells.length ≤ 63
theorem Hand.lst {H : Hp} {h c : Addr} (x : Hand H h c) : ∃ xs, H h = some (.lst xs) := let ⟨_, _, _, _, e, _⟩ := x; ⟨_, e⟩
theorem Hand.same {H H' : Hp} {h c : Addr} (x : Hand H h c) (s : Same H H') : Hand H' h c := by
  obtain ⟨cells, i, b, t, e1, e2, n, z⟩ := x
  exact ⟨cells, i, b, t, s _ _ e1, s _ _ e2, n, z⟩
/-- the hand alone is changed -/
abbrev Kh (h : Addr) : Hp → Hp → Prop := Kp (fun a => a = h)
theorem Hand.kh {H H' : Hp} {h c : Addr} (x : Hand H h c) (s : Same H H') : Kh h H H' := .of_same (fun a m => by subst m; exact x.lst) s
theorem Hand.kr {H : Hp} {h c : Addr} (x : Hand H h c) : Kh h H H := x.kh (Same.refl H)

def spMix : Sp := fun vs H Q _ => ∃ a b : Int, vs = [.int a, .int b] ∧ ∀ n : Int, Q (.int n) H
def spHand (K : PySem.W.Frag) : Sp := fun vs H Q _ => ∃ (a : Addr) (ns : List Int), vs = [.ref a] ∧ SqL K H a (ns.map V.int) ∧ ns.length ≤ 63 ∧ ∀ h c H', Same H H' → H h = Option.none → H c = Option.none → Hand H' h c → Q (.ref h) H'
def spDraw : Sp := fun vs H Q _ => ∃ (h c : Addr) (m : Int), vs = [.ref h, .int m] ∧ Hand H h c ∧ 0 < m ∧ m < 2 ^ 100 ∧ ∀ (n : Int) (H' : Hp), 0 ≤ n → n < m → Kh h H H' → Hand H' h c → Q (.int n) H'
/-- pick out of a list or tuple -/
def spPick (K : PySem.W.Frag) : Sp := fun vs H Q _ => ∃ (h c a : Addr) (xs : List V), vs = [.ref h, .ref a] ∧ Hand H h c ∧ (SqL K H a xs ∧ a ≠ h ∨ SqT K H a xs) ∧ xs ≠ [] ∧ xs.length ≤ 1000 ∧
  ∀ (v : V) (H' : Hp), v ∈ xs → Kh h H H' → Hand H' h c → Q v H'
end Cm

/-! further rules: a tuple read backwards, enumerate over a tuple, sorted(d.keys()) -/
namespace Cm
open PySem L2 PySem.Spec PyProof.Rows
section
variable {prog : Program} {w : World} {A : Around} {E : Value → Shared → Prop} {s : Shared}
theorem adjust_back (n : Nat) : Builtin.Slice.sliceAdjust none none (-1) (n : Int) = ((n : Int) - 1, -1) := by
  unfold Builtin.Slice.sliceAdjust
  simp
theorem places_back (n : Nat) : Builtin.Slice.slicePlaces ((n : Int) - 1) (-1) (-1) = n := by
  unfold Builtin.Slice.slicePlaces
  simp
  try omega
theorem applied_back {sl : Addr} {vs : Value} {n : Nat} {Q : Int × Int × Nat → Shared → Prop} (hs : s.heap.IsSliceOf sl .none .none vs) (ps : IsPart vs (some (-1)))
    (h : Q ((n : Int) - 1, -1, n) s) : wpAny (model prog w) A (Builtin.Slice.sliceApplied (.ref sl) (pure (n : Int))) Q E s := by
  obtain ⟨os, hos, hcs, hds⟩ := id hs
  unfold Builtin.Slice.sliceApplied Builtin.Slice.sliceFields
  refine wpAny_bind (wpAny_bind (wpAny_field hos hds (x := .none) rfl (wpAny_bind (wpAny_field hos hds (x := .none) rfl (wpAny_bind (wpAny_field hos hds (x := vs) rfl (wpAny_pure ?_)))))))
  refine wpAny_bind (HT.slicePart_ ps ?_)
  show wpAny _ _ (if ((-1 : Int) == 0) = true then _ else _) _ _ s
  rw [if_neg (by decide)]
  refine wpAny_bind (slicePart_none (wpAny_bind (slicePart_none (wpAny_bind (wpAny_pure ?_)))))
  show wpAny _ _ (match Builtin.Slice.sliceAdjust none none (-1) (n : Int) with | (lo, hi) => pure (lo, (-1 : Int), Builtin.Slice.slicePlaces lo hi (-1))) _ _ s
  rw [adjust_back]
  show wpAny _ _ (pure ((n : Int) - 1, (-1 : Int), Builtin.Slice.slicePlaces ((n : Int) - 1) (-1) (-1))) _ _ s
  rw [places_back]
  exact wpAny_pure h
theorem filterMap_eqs {α β : Type} {f g : α → Option β} : ∀ l : List α, (∀ x ∈ l, f x = g x) → l.filterMap f = l.filterMap g
  | [], _ => rfl
  | x :: l, h => by
    rw [List.filterMap_cons, List.filterMap_cons, h x List.mem_cons_self, filterMap_eqs l fun y hy => h y (List.mem_cons_of_mem _ hy)]
theorem pick_all (m : List Value) : (List.range m.length).filterMap (fun k => m[k]?) = m := by
  induction m with
  | nil => rfl
  | cons a m ih =>
    rw [List.length_cons, List.range_succ_eq_map, List.filterMap_cons]
    simp only [List.getElem?_cons_zero, List.filterMap_map]
    refine congrArg _ (Eq.trans (filterMap_eqs _ fun k _ => ?_) ih)
    simp
theorem pick_back (xs : Array Value) : ((List.range xs.size).filterMap fun (k : Nat) => xs[((xs.size : Int) - 1 + (k : Int) * -1).toNat]?).toArray = xs.toList.reverse.toArray := by
  have h1 : (List.range xs.size).filterMap (fun (k : Nat) => xs[((xs.size : Int) - 1 + (k : Int) * -1).toNat]?) = (List.range xs.size).filterMap (fun k => xs.toList.reverse[k]?) := by
    refine filterMap_eqs _ fun k hk => ?_
    have hk' : k < xs.size := List.mem_range.mp hk
    have e2 : ((xs.size : Int) - 1 + (k : Int) * -1).toNat = xs.size - 1 - k := by omega
    rw [e2, List.getElem?_reverse (by simpa using hk'), Array.getElem?_toList]
    simp
  have h3 := pick_all xs.toList.reverse
  rw [List.length_reverse, Array.length_toList] at h3
  rw [h1, h3]
theorem getItem_tuple_back {t sl : Addr} {items : Array Value} {vs : Value} {Q : Value → Shared → Prop} (ht : IsTup s.heap t items) (hs : s.heap.IsSliceOf sl .none .none vs) (ps : IsPart vs (some (-1)))
    (h : Q (.ref s.heap.objs.size) { s with heap := s.heap.push { cls := .type "tuple", data := .seq items.toList.reverse.toArray } })
    (hsz : items.size ≤ sizeLine) : wpAny (model prog w) A (getItem (.ref t) (.ref sl)) Q E s := by
  have hok : sizeOk (.seq items.toList.reverse.toArray) := by
    show items.toList.reverse.toArray.size ≤ sizeLine
    rw [List.size_toArray, List.length_reverse, Array.length_toList]
    exact hsz
  obtain ⟨os, hos, hcs, hds⟩ := id hs
  have hTs : s.TypeIs (.ref sl) "slice" := ⟨os, hos, hcs⟩
  unfold getItem
  try with_reducible refine wpAny_holding ?_
  first | refine wpAny_bind (wpAny_pure ?_) | skip
  refine wpAny_bind (wpAny_sequenceKey ht.typeIs (by decide) ?_)
  refine wpAny_bind (wpAny_callSpecial?_slot (name := Str.ofString "__getitem__") ht.typeIs slot_tuple_getitem (wpAny_call_entry slot_tuple_getitem ht.typeIs PyProof.Rows.entry_tuple_getitem ?_ (PyProof.Rows.args_tuple_getitem _ _)))
  show wpAny _ _ (Builtin.Tuple.tupleItemsOf (.ref t) >>= _) _ _ s
  refine wpAny_bind (tupleItemsOf_ ht (wpAny_bind (wpAny_typeOf hTs ?_)))
  rw [if_pos (by decide)]
  refine wpAny_bind (applied_back (n := items.size) hs ps ?_)
  show wpAny _ _ (if ((((items.size : Int) - 1) == 0 && (-1 : Int) == 1 && items.size == items.size) = true) then _ else _) _ _ s
  rw [if_neg (by simp), pick_back]
  first
    | exact wpAny_bind (m := Builtin.Tuple.tupleExact _) (wpAny_newObj_type (wpAny_pure ⟨_, rfl, wpAny_pure h⟩) hok)
    | exact wpAny_bind (m := Builtin.Tuple.tupleExact _) (wpAny_newObj_type (wpAny_bind (wpAny_pure (wpAny_pure ⟨_, rfl, wpAny_pure h⟩))) hok)
end
section
variable {X : Cx}
def tRevT (K : PySem.W.Frag) (te : TE) : TE := fun σ H Q => te σ H fun x H1 => ∃ a xs, x = .ref a ∧ SqT K H1 a xs ∧ ∀ p, H1 p = Option.none → Q (.ref p) (upd H1 p (.tup xs.reverse))
theorem pe_revT {e : Expr} {te : TE} {k : Nat} {p1 p2 p3 pos : Pos} (he : PE X e te) : PE X (.Subscript e (.Slice none none (some (.UnaryOp .USub (.Constant (.int 1) k p1) p2)) p3) pos) (tRevT X.K te) := by
  refine ⟨fun pins s σ H Q I h => ?_⟩
  refine Subscript_ (thn (he.run pins s σ H _ I h) fun v s1 hz => ?_)
  obtain ⟨x, H1, I1, r1, a, xs, ex, hx, q⟩ := hz
  subst ex
  cases r1
  have hst : PO X (some (.UnaryOp .USub (.Constant (.int 1) k p1) p2)) (tPart (tUn (rU fun i => .int (-i)) (tC (.int 1)))) := po_some (pe_un un_neg pe_int)
  refine wpAny_Slice (thn (po_none.run pins s1 σ H1 (fun o H2 => o = none ∧ H2 = H1) I1 ⟨rfl, rfl⟩) fun vl s2 hz => ?_)
  obtain ⟨l, H2, I2, pl, el, e2⟩ := hz
  subst el e2
  refine thn (po_none.run pins s2 σ H2 (fun o H3 => o = none ∧ H3 = H2) I2 ⟨rfl, rfl⟩) fun vu s3 hz => ?_
  obtain ⟨u, H3, I3, pu, eu, e3⟩ := hz
  subst eu e3
  refine thn (hst.run pins s3 σ H3 (fun o H4 => o = some (-1) ∧ H4 = H3) I3 ⟨1, rfl, -1, rfl, rfl, rfl⟩) fun vs s4 hz => ?_
  obtain ⟨o, H4, I4, ps, eo, e4⟩ := hz
  subst eo e4
  cases pl
  cases pu
  have I5 : Inv X pins σ H4 { s4 with heap := s4.heap.push { cls := .type "slice", data := .fields #[.none, .none, vs] } } := I4.kept (t' := s4.toks) fun b ob q => Heap.get?_push_of_some _ q
  obtain ⟨its, r, ht, hz⟩ := I5.tuple hx
  have hlen := r.length
  show wpAny (model X.prog X.w) X.A (subscriptTail e (.Slice none none (some (.UnaryOp .USub (.Constant (.int 1) k p1) p2)) p3) (.ref a) (.ref s4.heap.objs.size)) (EP X pins σ Q) X.xe
    { s4 with heap := s4.heap.push { cls := .type "slice", data := .fields #[.none, .none, vs] } }
  refine tail_any (ops := [.ref a, .ref s4.heap.objs.size]) ht.typeIs slot_tuple_getitem.lookup ?_ (by with_unfolding_all rfl)
  refine getItem_tuple_back ht (Heap.IsSliceOf.new _ .none .none vs) ps ?_ (by rw [List.size_toArray]; omega)
  refine ⟨.ref _, _, I5.laid (t' := s4.toks) (o := .tup xs.reverse) (fun b ob q => Heap.get?_push_of_some _ q) (Nat.le_refl _) ?_, rfl, q _ (I5.hok.fresh (Nat.le_refl _))⟩
  exact ⟨by rw [List.length_reverse]; exact hz, its.reverse, r.reverse, IsTup.new _ _⟩
end

/-! ### enumerate over a tuple -/
theorem enum_new1 {v : Value} {o : Obj} {G : Heap → Prop} (B : Begins v o G) :
    Meets (Builtin.«enumerate.__new__» ⟨[.type "enumerate", v], []⟩) (fun _ R s => G s.heap ∧
      R (.ok (.ret (.ref (s.heap.push o).objs.size))) { s with heap := (s.heap.push o).push { cls := .type "enumerate", data := .fields #[.none, .bool false, .ref s.heap.objs.size, rawInt 0, .none, .none] } }) :=
  .of_wp fun prog w A R s h => by
    obtain ⟨hp, g, d, tk, os⟩ := s
    obtain ⟨h1, h2⟩ := h
    have hsub := sub_enumerate
    have it : ∀ {A' : Around} {E : Value → Shared → Prop} {Q : Value → Shared → Prop}, Q (.ref hp.objs.size) ⟨hp.push o, g, d, tk, os⟩ → wpAny (model prog w) A' (pyIter v) Q E ⟨hp, g, d, tk, os⟩ :=
      fun q => B.iter prog w _ _ ⟨hp, g, d, tk, os⟩ _ h1 q
    wp_walk using it
    refine wpAny_stack_any fun st => wpAny_pure ?_
    split
    · rename_i c _ _ _ _ _
      cases (c == Value.type "enumerate") <;> (wp_walk using it; exact ⟨_, rfl, h2⟩)
    · wp_walk using it
      exact ⟨_, rfl, h2⟩
section
variable {prog : Program} {w : World} {A : Around} {E : Value → Shared → Prop} {s : Shared}
theorem call_enum1 {v : Value} {o : Obj} {G : Heap → Prop} {Q : Value → Shared → Prop} (B : Begins v o G) (h1 : G s.heap)
    (h : ∀ h', IsEnum h' (s.heap.objs.size + 1) s.heap.objs.size 0 .none → h'.get? s.heap.objs.size = some o → h'.objs.size = s.heap.objs.size + 2 →
      (∀ b o, s.heap.get? b = some o → h'.get? b = some o) → Q (.ref (s.heap.objs.size + 1)) { s with heap := h' }) :
    wpAny (model prog w) A (call (.type "enumerate") [v]) Q E s := by
  refine callType_new F.called_enumerate (by decide) (F.typeCall_enumerate_1 _) (F.newCall_enumerate_1 _) (fun obj => F.args_object_init_2 obj _) F.entry_enumerate_new (enum_new1 B) ⟨h1, ?_⟩
  have hz : (s.heap.push o).objs.size = s.heap.objs.size + 1 := Heap.size_push ..
  rw [hz]
  have he : IsEnum ((s.heap.push o).push { cls := .type "enumerate", data := .fields #[.none, .bool false, .ref s.heap.objs.size, rawInt 0, .none, .none] }) (s.heap.objs.size + 1) s.heap.objs.size 0 .none := by
    have e := Heap.get?_push_size (s.heap.push o) (o := { cls := .type "enumerate", data := .fields #[.none, .bool false, .ref s.heap.objs.size, rawInt 0, .none, .none] }) rfl
    rw [hz] at e
    exact e
  exact ⟨⟨_, he, rfl⟩, h _ he (Heap.get?_push_of_some _ (Heap.get?_push_size _ B.free)) (by rw [Heap.size_push, hz]) fun b o x => Heap.get?_push_of_some _ (Heap.get?_push_of_some _ x)⟩
end
/-- the tuple at a, each item in a new pair with its number -/
def IteT (K : PySem.W.Frag) (a : Addr) : It :=
  ⟨fun i H => ∃ (xs : List V) (x : V), SqT K H a xs ∧ xs[i]? = some x, fun i H v H' => ∃ T x, v = .ref T ∧ H T = Option.none ∧ H' = upd H T (.tup [.int (i : Nat), x]) ∧ ∀ xs, SqT K H a xs → xs[i]? = some x,
    fun i H => ∃ xs : List V, SqT K H a xs ∧ xs.length ≤ i⟩
theorem turn_enumT {P : Program} {w : World} {K : PySem.W.Frag} {elts : List Expr} {kk : Nat} {tpos : Pos} (a e it : Addr) :
    Turn P w K (.Tuple elts kk tpos) (IteT K a) [e, it] e (fun i h => (∃ old, IsEnum h e it ((i : Nat) : Int) old) ∧ h.IsTupleIter it a i ∧ e ≠ it ∧ a ≠ it ∧ a ≠ e) where
  mem := by simp
  obj := fun i h st b hb => by
    obtain ⟨⟨old, he⟩, ⟨o, ho, hc, hd⟩, _⟩ := st
    rcases (show b = e ∨ b = it by simpa using hb) with z | z
    · rw [z]; exact ⟨_, he, fun v q => nomatch q⟩
    · rw [z]; exact ⟨o, ho, fun v q => by rw [hd] at q; cases q⟩
  keep := fun i h h' st k => let ⟨⟨old, he⟩, hi, hne⟩ := st; ⟨⟨old, k e (by simp) _ he⟩, hi.at fun o q => k it (by simp) o q, hne⟩
  item := by
    intro X hP hw hK hc i pins s σ H E I hf st hg
    subst hP hw hK
    obtain ⟨⟨old, he⟩, hit, hne, hai, hae⟩ := st
    obtain ⟨xs, x, hq, hx⟩ := hg
    obtain ⟨its, rv, p, hz⟩ := I.tuple hq
    obtain ⟨u, hu, ru⟩ := rv.get hx
    have hel : e < s.heap.objs.size := Heap.lt_size he
    have hil : it < s.heap.objs.size := by obtain ⟨_, q, _⟩ := hit; exact Heap.lt_size q
    have hlt : i < its.toArray.size := by
      rw [List.size_toArray]
      exact (List.getElem?_eq_some_iff.mp hu).1
    refine wpAny_pyNext_enum_itemD (Draws.tuple (prog := X.prog) (w := X.w) (A := X.A.in1) (I.ok.hd hc) it a hai its.toArray) he ⟨hit, p⟩ hlt hne (by simp [hne, Ne.symm hae]) fun y h' tk hy ho hst hT hsz hk => ?_
    have ey : y = u := by
      have q : its[i]? = some y := by simpa using hy
      rw [hu] at q
      exact (Option.some.inj q).symm
    subst ey
    refine ⟨_, rfl, wpAny_letOwnedTupleGo_enum (s := { s with heap := h', toks := tk + 1 }) ho fun h'' he' sb => ?_⟩
    have hT2 : h''.get? s.heap.objs.size = some { cls := .type "tuple", data := .seq #[.int i tk, y] } := (sb.2 _ (Nat.ne_of_gt hel)).trans hT
    have new : ObjOk X.prog X.w (upd H s.heap.objs.size (.tup [.int (i : Nat), x])) h'' s.heap.objs.size (.tup [.int (i : Nat), x]) :=
      ⟨by show 2 ≤ sizeLine; decide, [.int i tk, y], .cons ⟨_, rfl⟩ (.cons ru .nil), ⟨_, hT2, rfl, _, rfl⟩⟩
    have I1 : Inv X pins σ (upd H s.heap.objs.size (.tup [.int (i : Nat), x])) { s with heap := h'', toks := tk + 1 } :=
      I.turnedNew (ch := [e, it]) (fun b ob hb q => (sb.2 b (fun z => hb (by simp [z]))).trans (hk b ob (fun z => hb (by simp [z])) (fun z => hb (by simp [z])) q)) hf (Nat.le_refl _) new
    refine ⟨.ref s.heap.objs.size, _, I1, rfl, ⟨_, x, rfl, I.hok.fresh (Nat.le_refl _), rfl, fun ys hy => by rw [I.tuple_inj hy hq]; exact hx⟩, ⟨⟨y, ?_⟩, hst.1.at fun o q => (sb.2 it (Ne.symm hne)).trans q, hne, hai, hae⟩, fun b hb => ?_⟩
    · have e1 : ((i + 1 : Nat) : Int) = (i : Int) + 1 := by omega
      rw [e1]; exact he'
    · have hb' : b < s.heap.objs.size := by
        rcases (show b = e ∨ b = it by simpa using hb) with z | z
        · rw [z]; exact hel
        · rw [z]; exact hil
      rw [upd_ne (Nat.ne_of_lt hb')]
      exact (hf b hb).1
  done := by
    intro X hP hw hK hc i pins s σ H E I hf st hg
    subst hP hw hK
    obtain ⟨⟨old, he⟩, hit, hne, hai, hae⟩ := st
    obtain ⟨xs, hq, hx⟩ := hg
    obtain ⟨its, rv, p, hz⟩ := I.tuple hq
    obtain ⟨f0, f1, f2, f3, f4, f5⟩ := hf it (by simp)
    have hl := rv.length
    have D : Draws X.prog X.w X.A.in1 it [it, a] i (fun _ _ => False) (fun j h => j = i ∧ h.IsTupleIter it a i ∧ h.IsTuple a its.toArray) :=
      { live := fun _ _ st => let ⟨o, ho, _⟩ := st.2.1; ⟨o, ho⟩
        frame := fun _ _ _ st hk => ⟨st.1, st.2.1.at fun o e => hk it (by simp) o e, st.2.2.at fun o e => hk a (by simp) o e⟩
        item := fun j s Q E hj st => absurd hj (by rw [st.1]; exact Nat.lt_irrefl _)
        done := fun s Q E st hE => wpAny_nextOf_tuple_end (I.ok.hd hc) st.2.1 st.2.2 (by simp; omega) hE }
    exact wpAny_pyNext_enum_endD D he ⟨rfl, hit, p⟩ fun h' eb => ⟨rfl, I.turned (t' := s.toks) (fun b o hb q => eb b o hb q) f0 f1 f3 f4 f5⟩
  self := fun A i s Q E st h => let ⟨⟨_, he⟩, _⟩ := st; wpAny_pyIter_enum he h
def iEnumT (K : PySem.W.Frag) (ta : TA) : TI := fun σ H R => ta σ H fun vs H1 => ∃ a xs, vs = [.ref a] ∧ SqT K H1 a xs ∧ R (IteT K a) H1
theorem pi_enumT {X : Cx} {e : Expr} {ta : TA} {p pos tpos : Pos} {elts : List Expr} {kk : Nat} (hg : Gl X "enumerate") (hm : X.mg "enumerate" = none) (ha : PA X [e] ta) (hs : starEach [e] X.env = [(false, eval e X.env)] := by rfl) :
    PI X (.Tuple elts kk tpos) (.Call (.Name "enumerate" p) [e] [] pos) (iEnumT X.K ta) := by
  refine ⟨fun pins s σ H R I h => ?_⟩
  refine Call_ (ld_blt I hg hm boot_enumerate (PyProof.Rows.callWith_type1 (thn (ha.run pos pins s σ H _ I h) fun us s1 hz => ?_) hs rfl))
  obtain ⟨vs, H1, I1, r1, a, xs, ex, hq, q⟩ := hz
  subst ex
  cases r1 with
  | cons r rr =>
    cases rr
    cases r
    obtain ⟨its, rv, p', hz⟩ := I1.tuple hq
    refine call_enum1 (begins_tuple a its.toArray) p' fun h' he hit hsz hk => wpAny_pyIter_enum he ?_
    have hal : a < s1.heap.objs.size := p'.lt
    refine ⟨s1.heap.objs.size + 1, [s1.heap.objs.size + 1, s1.heap.objs.size], _, _, H1, rfl, I1.kept (t' := s1.toks) hk, turn_enumT a (s1.heap.objs.size + 1) s1.heap.objs.size,
      ⟨⟨.none, he⟩, ⟨_, hit, rfl, rfl⟩, Nat.succ_ne_self _, Nat.ne_of_lt hal, Nat.ne_of_lt (Nat.lt_succ_of_lt hal)⟩, fun b hb => ?_, q⟩
    have hle : s1.heap.objs.size ≤ b := by
      rcases (show b = s1.heap.objs.size + 1 ∨ b = s1.heap.objs.size by simpa using hb) with z | z
      · rw [z]; exact Nat.le_add_right _ _
      · rw [z]; exact Nat.le_refl _
    exact I1.fpOk hle (I1.hok.fresh hle)
theorem walk_enumT {K : PySem.W.Frag} {a : Addr} {xs : List V} : Walk (IteT K a) xs.length (fun H => SqT K H a xs) (YPair (fun i => some (.int (i : Nat))) (fun i => xs[i]?)) := by
  refine ⟨fun i _ hi q => ⟨xs, xs[i], q, by simp [hi]⟩, fun _ q => ⟨xs, q, Nat.le_refl _⟩, fun i H v H' _ q y => ?_⟩
  obtain ⟨T, x, h1, h2, h3, h4⟩ := y
  exact ⟨T, .int (i : Nat), x, h1, h2, h3, rfl, h4 xs q⟩
theorem walk_zipT {K : PySem.W.Frag} {a b : Addr} {xs ys : List V} {n : Nat} (hn : n = min xs.length ys.length) : Walk (RZ.ItzT K a b) n (fun H => SqT K H a xs ∧ SqT K H b ys) (YPair (fun i => xs[i]?) (fun i => ys[i]?)) := by
  subst hn
  refine ⟨fun i _ hi q => ?_, fun _ q => ⟨xs, ys, q.1, q.2, by omega⟩, fun i H v H' _ q y => ?_⟩
  · have h1 : i < xs.length := by omega
    have h2 : i < ys.length := by omega
    exact ⟨xs, ys, xs[i], ys[i], q.1, q.2, by simp [h1], by simp [h2]⟩
  · obtain ⟨T, x, z, h1, h2, h3, h4, h5⟩ := y
    exact ⟨T, x, z, h1, h2, h3, h4 xs q.1, h5 ys q.2⟩

/-! ### sorted(d.keys()) of a dict of int keys -/
section
variable {X : Cx}
/-- the view r of the keys of the dict at d -/
def ViewO (r d : Addr) : HO := .ext fun h => PySem.W.KdlKeysView h r d
def tKeys (td : TE) : TE := fun σ H Q => td σ H fun x H1 => ∃ d, x = .ref d ∧ (∃ kvs, H1 d = some (.dK kvs)) ∧ ∀ r, H1 r = Option.none → Q (.ref r) (upd H1 r (ViewO r d))
theorem pe_keys {e : Expr} {td : TE} {apos cpos : Pos} (he : PE X e td) (hbase : attributeBase e "keys" X.env (eval e X.env) = eval e X.env := by rfl) (hline : (apos.endLine == cpos.line) = true := by rfl) :
    PE X (.Call (.Attribute e "keys" apos) [] [] cpos) (tKeys td) := by
  refine ⟨fun pins s σ H Q I h => ?_⟩
  refine wpAny_Call_method (T := "dict") (id := "dict.keys") hbase rfl hline F.plainAttrs_dict F.slot_dict_keys F.type_dict_keys (thn (he.run pins s σ H _ I h) fun u s1 hz => ?_)
  obtain ⟨x, H1, I1, rx, d, ex, ⟨kvs, hd⟩, q⟩ := hz
  subst ex
  obtain rfl : u = Value.ref d := rx
  obtain ⟨z, lo, vs, rel, dd⟩ := dk_of I1.hok hd
  refine ⟨dd.typeIs, dd.mapOf.noDict, ?_⟩
  show wpAny _ _ (callWith cpos (.builtin "dict.keys") [.ref d] [] []) _ X.xe s1
  have fin : EP X pins σ Q (.ref s1.heap.objs.size) { s1 with heap := s1.heap.push { cls := .type "dict_keys", data := .fields #[.ref d] } } := by
    refine ⟨.ref s1.heap.objs.size, upd H1 s1.heap.objs.size (ViewO s1.heap.objs.size d), I1.laid (t' := s1.toks) (fun b u e => Heap.get?_push_of_some _ e) (Nat.le_refl _) ?_, rfl, q _ (I1.hok.fresh (Nat.le_refl _))⟩
    refine ⟨⟨_, Heap.get?_push_size _ rfl, rfl, rfl⟩, ⟨_, Heap.get?_push_size _ rfl⟩, fun h1 h2 a b => ?_⟩
    obtain ⟨o, ho, c⟩ := a
    exact ⟨o, b o ho, c⟩
  exact method_meetsIn F.slot_dict_keys F.entry_dict_keys rfl (PySem.evalArgs_none ⟨rfl, dd.typeIs, F.args_dict_keys_1 _, _, PySem.W.kdl_meets_keys (mixKind X.prog X.w) d lo, ⟨vs, dd⟩, fin⟩)
theorem call_sortedK (hcalm : X.calm = true) : CallR X (.builtin "sorted") (fun xs H Q => ∃ (r d : Addr) (kvs : List (Key × V)) (ks : List Int), xs = [.ref r] ∧ H r = some (ViewO r d) ∧ H d = some (.dK kvs) ∧ kvs.map (·.1) = ks.map Sum.inl ∧ ks.length < 64 ∧
    ∀ (ys : List Int) (p : Addr), ys.Perm ks → ys.Pairwise (· ≤ ·) → H p = Option.none → Q (.ref p) (upd H p (.lst (ys.map V.int)))) := by
  intro pins s σ H xs us Q I rr q
  obtain ⟨r, d, kvs, ks, ex, hr, hd, hks, h64, q⟩ := q
  subst ex
  obtain ⟨u, eu, rx⟩ := vals1 rr
  subst eu
  cases rx
  have hv : PySem.W.KdlKeysView s.heap r d := (I.hok r _ hr).1
  obtain ⟨z, lo, vs, rel, dd⟩ := dk_of I.hok hd
  obtain ⟨ep, hat⟩ := dd.dictAt
  have hkeys : vs.map (·.1) = ks.map Sum.inl := rel.keys.symm.trans hks
  have hl : vs.length = ks.length := by simpa using congrArg List.length hkeys
  have h16 : vs.length ≤ sizeLine := by rw [hl, sizeLine_eq]; omega
  refine Calls.call_function_entry PyProof.Rows.kind_sorted PyProof.Rows.plain_sorted PyProof.Rows.entry_sorted (PyProof.Rows.args_sorted1 _) ?_
  unfold Builtin.«sorted»
  refine wpAny_bind (m := checkCount "sorted" 1 1 _) (wpAny_pure ?_)
  refine wpAny_bind (PySem.W.kdu_collect (A := X.A.in1) (PySem.W.kdl_keys (knd := mixKind X.prog X.w) (r := r) (d := d) (kvs := vs) (ep := ep)) (I.ok.hd hcalm) ⟨hv, hat⟩ h16 fun h' tk acc hk hacc => ?_)
  have hal : acc.toList.length = ks.length := by rw [Array.length_toList, hacc.1, hl]
  have hS : IntsAre acc.toList ks := ints_each hal fun j v e => by
    obtain ⟨k, x, e1, e2⟩ := hacc.2 j v (by rw [← Array.getElem?_toList]; exact e)
    have e3 : (vs.map (·.1))[j]? = some k := by rw [List.getElem?_map, e1]; rfl
    rw [hkeys, List.getElem?_map] at e3
    obtain ⟨y, ey, e4⟩ := Option.map_eq_some_iff.mp e3
    subst e4
    rcases keyIs_shape (show keyIs (Sum.inl y) v = true from e2) with ⟨i, t, ek, ev⟩ | ⟨_, t, ek, ev⟩
    · cases ek
      exact ⟨y, t, ey, ev⟩
    · cases ek
  have I1 : Inv X pins σ H { s with heap := h', toks := tk } := I.kept hk
  refine wpAny_bind (wpAny_newList ?_ (by rw [hal, sizeLine_eq]; omega))
  have hoL : (h'.push (seqObj "list" acc.toList.toArray 0)).get? h'.objs.size = some (seqObj "list" acc.toList.toArray 0) := Heap.get?_push_size _ rfl
  show wpAny _ _ _ _ _ { s with heap := h'.push (seqObj "list" acc.toList.toArray 0), toks := tk }
  refine wpAny_bind (wpAny_holding (wpAny_call_entry PyProof.Rows.slot_list_sort ⟨_, hoL, rfl⟩ PyProof.Rows.entry_list_sort
    (PyProof.Rows.list_sort_tree (s := { s with heap := h'.push (seqObj "list" acc.toList.toArray 0), toks := tk }) hoL hS (by rw [hal]; exact h64) fun out ys g1 g2 g3 => ⟨_, rfl, ?_⟩) (PyProof.Rows.args_list_sort _)))
  obtain ⟨e', he'⟩ := PyProof.Rows.sortedHeap_at (vs := acc.toList) (out := out) hoL
  have hlen : (ys.map V.int).length ≤ sizeLine := by
    rw [List.length_map, g2.length_eq]
    exact Nat.le_trans (Nat.le_of_lt h64) (by decide)
  refine wpAny_pure ⟨_, rfl, .ref h'.objs.size, upd H h'.objs.size (.lst (ys.map V.int)), I1.laid (t' := tk) (fun b u e => ?_) (Nat.le_refl _)
    (show ObjOk X.prog X.w _ _ _ (.lst (ys.map V.int)) from ⟨hlen, out.toList, e', vals_of_ints g1, by rw [Array.toArray_toList]; exact he'⟩), rfl, q ys _ g2 g3 (I1.hok.fresh (Nat.le_refl _))⟩
  have hb : b < h'.objs.size := Heap.lt_size e
  rw [PyProof.Rows.sortedHeap_old (Nat.ne_of_lt hb) (by rw [size_push']; exact Nat.lt_succ_of_lt hb)]
  exact Heap.get?_push_of_some _ e
end
end Cm

/-! a dict of things by births -/
namespace Cm
open PySem L2
/-- a thing: a word, then data without lists -/
def windD (b : Int) : PyData := .tuple [.str "wind", .int (1000 + b), .int (2000 + b)]
def wordD : PyData → Str
  | .tuple (.str x :: _) => x
  | _ => ""
structure Th (b : Int) (d : PyData) : Prop where
  ex : ∃ (wd : Str) (r : List PyData), d = .tuple (.str wd :: r)
  fl : flatD d = true
  ok : okD d = true
  dp : d.depth ≤ 8
  wt : d.weight ≤ 4000
  wn : wordD d = "wind" → d = windD b
/-- the dict at d holds es -/
structure ThAt (K : PySem.W.Frag) (H : Hp) (d : Addr) (es : List (Int × PyData)) (kvs : List (Key × V)) : Prop where
  at_ : H d = some (.dK kvs)
  ks : kvs.map (·.1) = es.map (fun e => Sum.inl e.1)
  vs : DpAll K H (kvs.map (·.2)) (es.map (·.2))
  th : ∀ e ∈ es, Th e.1 e.2
def thg (es : List (Int × PyData)) (b : Int) : PyData := ((es.find? fun e => decide (e.1 = b)).map (·.2)).getD .none
def word (es : List (Int × PyData)) (b : Int) : Str := wordD (thg es b)
theorem th_find {K : PySem.W.Frag} {H : Hp} (b : Int) : ∀ (es : List (Int × PyData)) (kvs : List (Key × V)), kvs.map (·.1) = es.map (fun e => (Sum.inl e.1 : Key)) → DpAll K H (kvs.map (·.2)) (es.map (·.2)) →
    b ∈ es.map (·.1) → ∃ v, valV kvs (Sum.inl b) = some v ∧ Dp K H v (thg es b) ∧ (b, thg es b) ∈ es
  | [], _, _, _, m => by simp at m
  | e :: es, kvs, hk, hv, m => by
    cases kvs with
    | nil => simp at hk
    | cons a kvs =>
      simp only [List.map_cons, List.cons.injEq] at hk
      cases hv with
      | cons h1 h2 =>
        by_cases q : e.1 = b
        · refine ⟨a.2, ?_, ?_, ?_⟩
          · unfold valV
            rw [List.find?_cons_of_pos (by rw [hk.1, q]; simp)]
            rfl
          · have : thg (e :: es) b = e.2 := by
              unfold thg
              rw [List.find?_cons_of_pos (by simp [q])]
              rfl
            rw [this]
            exact h1
          · have : thg (e :: es) b = e.2 := by
              unfold thg
              rw [List.find?_cons_of_pos (by simp [q])]
              rfl
            rw [this, ← q]
            exact List.mem_cons_self
        · have m' : b ∈ es.map (·.1) := by
            simp only [List.map_cons, List.mem_cons] at m
            rcases m with m | m
            · exact absurd m.symm q
            · exact m
          obtain ⟨v, g1, g2, g3⟩ := th_find b es kvs hk.2 h2 m'
          have e2 : thg (e :: es) b = thg es b := by
            unfold thg
            rw [List.find?_cons_of_neg (by simpa using q)]
          refine ⟨v, ?_, by rw [e2]; exact g2, by rw [e2]; exact List.mem_cons_of_mem _ g3⟩
          unfold valV at g1 ⊢
          rw [List.find?_cons_of_neg (by rw [hk.1]; simpa using q)]
          exact g1
theorem ThAt.get {K : PySem.W.Frag} {H : Hp} {d : Addr} {es : List (Int × PyData)} {kvs : List (Key × V)} (x : ThAt K H d es kvs) {b : Int} (m : b ∈ es.map (·.1)) :
    ∃ (p : Addr) (its : List V), DGet H d (.int b) (some (.ref p)) ∧ SqT K H p its ∧ atI its 0 = some (.str (word es b)) ∧ Dp K H (.ref p) (thg es b) ∧ Th b (thg es b) := by
  obtain ⟨v, h1, h2, h3⟩ := th_find b es kvs x.ks x.vs m
  have t : Th b (thg es b) := x.th _ h3
  obtain ⟨wd, r, ed⟩ := t.ex
  have h2' := h2
  have e3 : word es b = wd := by
    unfold word
    rw [ed]
    rfl
  rw [ed] at h2'
  cases h2' with
  | @tup a its ds hs ha =>
    refine ⟨a, its, ?_, hs, ?_, by rw [ed]; exact .tup hs ha, t⟩
    · have q := DGet.k (k := Sum.inl b) x.at_
      rw [h1] at q
      exact q
    · rw [e3]
      cases ha with
      | cons q1 q2 =>
        cases q1
        exact atI_nat (j := 0) rfl
theorem putK_end {kvs : List (Key × V)} {k : Key} {v : V} (h : ∀ p ∈ kvs, p.1 ≠ k) : putK kvs k v = kvs ++ [(k, v)] := by
  unfold putK
  rw [if_neg]
  intro q
  obtain ⟨p, hp, e⟩ := List.any_eq_true.mp q
  exact h p hp (of_decide_eq_true e)
theorem decS {x y : Str} : decide (V.str x = V.str y) = decide (x = y) := by
  by_cases q : x = y
  · rw [q]; simp
  · rw [decide_eq_false q, decide_eq_false (fun z => q (V.str.inj z))]
theorem ThAt.same {K : PySem.W.Frag} {H H' : Hp} {d : Addr} {es : List (Int × PyData)} {kvs : List (Key × V)} (x : ThAt K H d es kvs) (s : Same H H') : ThAt K H' d es kvs :=
  ⟨s _ _ x.at_, x.ks, dps_same s _ _ x.vs, x.th⟩
theorem flatDs_of : ∀ ds : List PyData, (∀ d ∈ ds, flatD d = true) → flatDs ds = true
  | [], _ => rfl
  | d :: ds, h => by simp [flatDs, h d List.mem_cons_self, flatDs_of ds fun x hx => h x (List.mem_cons_of_mem _ hx)]
theorem ThAt.fl {K : PySem.W.Frag} {H : Hp} {d : Addr} {es : List (Int × PyData)} {kvs : List (Key × V)} (x : ThAt K H d es kvs) : flatDs (es.map (·.2)) = true :=
  flatDs_of _ fun z hz => by
    obtain ⟨e, he, rfl⟩ := List.mem_map.mp hz
    exact (x.th e he).fl
theorem ThAt.kp {M : Addr → Prop} {K : PySem.W.Frag} {H H' : Hp} {d : Addr} {es : List (Int × PyData)} {kvs : List (Key × V)} (x : ThAt K H d es kvs) (k : Kp M H H') (n : ¬ M d) : ThAt K H' d es kvs :=
  ⟨k.st _ _ n x.at_, x.ks, dps_keep (fun _ _ h => k.tup h) _ _ x.fl x.vs, x.th⟩
theorem wt_int {i : Int} (h : i.natAbs < 10 ^ 12) : PyData.weight (.int i) ≤ 64 := by
  simp only [PyData.weight]
  split
  · omega
  · rename_i q
    have q' : i.natAbs ≠ 0 := by
      intro z
      apply q
      simp
      omega
    have := (Nat.log2_lt q').mpr (show i.natAbs < 2 ^ 63 from Nat.lt_of_lt_of_le h (by decide))
    omega
theorem ThAt.snoc {K : PySem.W.Frag} {H : Hp} {d : Addr} {es : List (Int × PyData)} {kvs : List (Key × V)} (x : ThAt K H d es kvs) {b : Int} {v : V} {t : PyData} (n : b ∉ es.map (·.1)) (hv : Dp K H v t) (ht : Th b t) :
    ThAt K (upd H d (.dK (putK kvs (Sum.inl b) v))) d (es ++ [(b, t)]) (putK kvs (Sum.inl b) v) := by
  have e1 : putK kvs (Sum.inl b) v = kvs ++ [(Sum.inl b, v)] := putK_end fun p hp q => n (by
    have : p.1 ∈ kvs.map (·.1) := List.mem_map.mpr ⟨p, hp, rfl⟩
    rw [x.ks] at this
    obtain ⟨e, he, e2⟩ := List.mem_map.mp this
    rw [q] at e2
    exact List.mem_map.mpr ⟨e, he, Sum.inl.inj e2⟩)
  have keep : ∀ a xs, SqT K H a xs → SqT K (upd H d (.dK (putK kvs (Sum.inl b) v))) a xs := fun a xs h => by
    rcases h with (h | ⟨o, h⟩) | h
    · exact .inl (.inl (by rw [upd_ne (ne_of h x.at_ (by intro z; cases z))]; exact h))
    · exact .inl (.inr ⟨o, by rw [upd_ne (ne_of h x.at_ (by intro z; cases z))]; exact h⟩)
    · exact .inr h
  refine ⟨upd_same, ?_, ?_, ?_⟩
  · rw [e1, List.map_append, List.map_append, x.ks]
    rfl
  · have h1 := dps_keep keep _ _ x.fl x.vs
    have h2 := dp_keep keep _ _ ht.fl hv
    rw [show (putK kvs (Sum.inl b) v).map (·.2) = kvs.map (·.2) ++ [v] by rw [e1, List.map_append]; rfl, List.map_append]
    exact DpAll.snoc h2 h1
  · intro e he
    rcases List.mem_append.mp he with he | he
    · exact x.th e he
    · cases List.mem_singleton.mp he
      exact ht
theorem Kp.mut {M : Addr → Prop} {H H' : Hp} {d : Addr} {o : HO} (k : Kp M H H') (hd : H d = Option.none) : Kp M H (upd H' d o) :=
  ⟨fun a u n e => by
    rw [upd_ne (ne_of_none e hd)]
    exact k.st a u n e, k.l1, fun a m => by
    have q : a ≠ d := fun q => k.m_of hd (q ▸ m)
    rw [upd_ne q]
    exact k.l2 a m⟩
theorem Hand.put {H : Hp} {h c d : Addr} {o : HO} (x : Hand H h c) (n : ∀ xs, H d ≠ some (.lst xs)) : Hand (upd H d o) h c := by
  obtain ⟨cells, i, b, t, e1, e2, q⟩ := x
  refine ⟨cells, i, b, t, ?_, ?_, q⟩
  · rw [upd_ne (fun z => n _ (z ▸ e1))]
    exact e1
  · rw [upd_ne (fun z => n _ (z ▸ e2))]
    exact e2
theorem Hand.puts {H : Hp} {h c d : Addr} {o : HO} (x : Hand H h c) (n1 : d ≠ h) (n2 : d ≠ c) : Hand (upd H d o) h c := by
  obtain ⟨cells, i, b, t, e1, e2, q⟩ := x
  exact ⟨cells, i, b, t, by rw [upd_ne (Ne.symm n1)]; exact e1, by rw [upd_ne (Ne.symm n2)]; exact e2, q⟩
theorem Hand.there {H : Hp} {h c d : Addr} (x : Hand H h c) (n : H d = Option.none) : d ≠ h ∧ d ≠ c := by
  obtain ⟨cells, i, b, t, e1, e2, q⟩ := x
  exact ⟨(ne_of_none e1 n).symm, (ne_of_none e2 n).symm⟩
theorem Hand.ne {H : Hp} {h c d : Addr} (x : Hand H h c) (n : ∀ xs, H d ≠ some (.lst xs)) : d ≠ h := fun z => by
  obtain ⟨xs, e⟩ := x.lst
  exact n xs (z ▸ e)
/-- 1 .. n -/
def births (n : Nat) : List Int := (List.range n).map fun (i : Nat) => (i : Int) + 1
theorem births_succ (n : Nat) : births (n + 1) = births n ++ [(n : Int) + 1] := by
  unfold births
  rw [List.range_succ, List.map_append]
  rfl
theorem births_mem {n : Nat} {b : Int} : b ∈ births n ↔ 1 ≤ b ∧ b ≤ n := by
  unfold births
  rw [List.mem_map]
  constructor
  · rintro ⟨i, hi, rfl⟩
    have := List.mem_range.mp hi
    omega
  · intro q
    exact ⟨(b - 1).toNat, List.mem_range.mpr (by omega), by omega⟩
/-- a new thing is put at the next birth -/
theorem things_put {K : PySem.W.Frag} {H H3 : Hp} {h c d : Addr} {es : List (Int × PyData)} {kvs : List (Key × V)} {i : Nat} {v : V} {t : PyData} (kh : Kh h H H3) (hh : Hand H3 h c) (x : ThAt K H3 d es kvs) (hd : H d = Option.none)
    (hk : es.map (·.1) = births i) (hi : i < 1000) (hv : Dp K H3 v t) (ht : Th (1 + i) t) :
    ∃ H4 es' kvs', DPut H3 d (.int (1 + (i : Nat))) v H4 ∧ Kh h H H4 ∧ Hand H4 h c ∧ ThAt K H4 d es' kvs' ∧ es'.map (·.1) = births (i + 1) := by
  have hb : (1 : Int) + i ∉ es.map (·.1) := by
    rw [hk, births_mem]
    omega
  have hl : kvs.length < sizeLine := by
    have e := congrArg List.length x.ks
    rw [List.length_map, List.length_map] at e
    have e2 := congrArg List.length hk
    rw [List.length_map] at e2
    have e3 : (births i).length = i := by unfold births; rw [List.length_map, List.length_range]
    rw [e, e2, e3]
    exact Nat.lt_trans hi (by decide)
  refine ⟨_, _, _, DPut.k (k := Sum.inl (1 + (i : Int))) x.at_ hl, kh.mut hd, hh.put (fun xs e => by rw [x.at_] at e; cases e), x.snoc hb hv ht, ?_⟩
  rw [List.map_append, hk, births_succ]
  show births i ++ [1 + (i : Int)] = _
  rw [show (1 : Int) + i = i + 1 by omega]
theorem births_len (n : Nat) : (births n).length = n := by
  unfold births
  rw [List.length_map, List.length_range]
end Cm

/-! comprehensions over data -/
namespace Cm
open PySem L2
theorem sqt_put {K : PySem.W.Frag} {H : Hp} {D a : Addr} {xs ys zs : List V} (h : H D = some (.lst ys)) (q : SqT K H a xs) : SqT K (upd H D (.lst zs)) a xs := by
  rcases q with (q | ⟨o, q⟩) | q
  · exact .inl (.inl (by rw [upd_ne (ne_of q h (by intro z; cases z))]; exact q))
  · exact .inl (.inr ⟨o, by rw [upd_ne (ne_of q h (by intro z; cases z))]; exact q⟩)
  · exact .inr q
theorem same_put {H H' : Hp} {D : Addr} {o : HO} (s : Same H H') (h : H D = Option.none) : Same H (upd H' D o) := fun b u e => by
  rw [upd_ne (ne_of_none e h)]
  exact s b u e
theorem sqt_same {K : PySem.W.Frag} {H H' : Hp} {a : Addr} {xs : List V} (s : Same H H') (h : SqT K H a xs) : SqT K H' a xs := by
  rcases h with (h | ⟨o, h⟩) | h
  · exact .inl (.inl (s _ _ h))
  · exact .inl (.inr ⟨o, s _ _ h⟩)
  · exact .inr h
theorem flatDs_all {ds : List PyData} (h : flatDs ds = true) : ∀ d ∈ ds, flatD d = true := by
  induction ds with
  | nil => intro d hd; cases hd
  | cons a r ih =>
    have h' : flatD a = true ∧ flatDs r = true := by simpa [flatDs] using h
    intro d hd
    rcases List.mem_cons.mp hd with rfl | hd
    · exact h'.1
    · exact ih h'.2 d hd
theorem flatDs_app {ds es : List PyData} (h1 : flatDs ds = true) (h2 : flatDs es = true) : flatDs (ds ++ es) = true :=
  flatDs_of _ fun d hd => by
    rcases List.mem_append.mp hd with q | q
    · exact flatDs_all h1 d q
    · exact flatDs_all h2 d q
theorem walk_upto {n : Nat} : Walk (Itr 0 n) n (fun _ => True) (YFn fun i => .int ((i : Nat) : Int)) :=
  ⟨fun _ _ hi _ => hi, fun _ _ => Nat.le_refl _, fun i H x H' _ _ y => ⟨y.1, by
    have := y.2
    rw [Int.zero_add] at this
    exact this⟩⟩
/-! ### the same rules where the context is a comprehension's block: K is said -/
section
variable {X : Cx} {K : PySem.W.Frag}
theorem kx_tup (h : X.K = K := by rfl) : IxR X (rIxT K) := by subst h; exact ix_tup
theorem kx_list (h : X.K = K := by rfl) : IxR X (rIxL K) := by subst h; exact ix_list
theorem kx_seq (h : X.K = K := by rfl) : IxR X (rIx K) := by subst h; exact ix_seq
theorem ko_eqD (hu : X.A.units + 64 < cLine) (h : X.K = K := by rfl) : OpR X (compareOp .Eq) (rEqD K) := by subst h; exact op_eqD hu
theorem ko_neD (hu : X.A.units + 64 < cLine) (h : X.K = K := by rfl) : OpR X (compareOp .NotEq) (rNeD K) := by subst h; exact op_neD hu
theorem ko_in (h : X.K = K := by rfl) : OpR X (compareOp .In) (rIn K false) := by subst h; exact op_in_seq
theorem ko_notIn (h : X.K = K := by rfl) : OpR X (compareOp .NotIn) (rIn K true) := by subst h; exact op_notIn_seq
theorem ko_catA (h : X.K = K := by rfl) : OpR X (binaryOp .Add) (rCatA K) := by subst h; exact op_catA
def rLen (K : PySem.W.Frag) : List V → Hp → VK → Prop := fun xs H Q => ∃ p ys, xs = [.ref p] ∧ (SqL K H p ys ∨ SqT K H p ys) ∧ Q (.int ys.length) H
theorem kc_len (h : X.K = K := by rfl) : CallR X (.builtin "len") (rLen K) := by subst h; exact call_len_seq
end
/-- a comprehension whose items are data without lists: R i is the i-th turn's, none if it is left out -/
theorem lc_data {K : PySem.W.Frag} {J : It} {n : Nat} {G : Hp → Prop} {Y : Nat → Hp → V → Hp → Prop} (wk : Walk J n G Y) {g : TG} {tt : TT} {te : TE} {vs : List Nat} {σ : L2.St} {H1 : Hp} {D : Addr} {Qd : Hp → Prop} (R : Nat → Option PyData)
    (hD : H1 D = Option.none) (hn : n ≤ 100000) (hG : ∀ H, Same H1 H → G H) (hfl : ∀ i < n, ∀ d, R i = some d → flatD d = true)
    (hs : ∀ i x H H', i < n → Same H1 H → Y i H x H' → ∀ (Q1 : VK) (Q0 : Hp → Prop), (∀ v H4 d, R i = some d → Same H H4 → Dp K H4 v d → Q1 v H4) → (∀ H3, R i = none → Same H H3 → Q0 H3) →
      g x (wipe σ vs) H' fun σ2 H2 => wipe σ2 vs = wipe σ vs ∧ tt σ2 H2 fun b H3 => if b = true then te σ2 H3 Q1 else Q0 H3)
    (hd : ∀ H acc, Same H1 H → H D = some (.lst acc) → DpAll K H acc ((List.range n).filterMap R) → Qd H) :
    ∃ W : Nat → Nat → Hp → Prop, (∃ m, W 0 m (upd H1 D (.lst []))) ∧ ∀ i m H, W i m H →
      (J.stop i H ∧ Qd H) ∨ (J.go i H ∧ ∃ Nx : Hp → Prop, (∀ H', Nx H' → ∃ m', m' < m ∧ W (i + 1) m' H') ∧ ∀ x H', J.yld i H x H' → g x (wipe σ vs) H' fun σ2 H2 => wipe σ2 vs = wipe σ vs ∧ tt σ2 H2 fun b H3 =>
        if b = true then te σ2 H3 fun y H4 => ∃ acc, H4 D = some (.lst acc) ∧ acc.length < sizeLine ∧ Nx (upd H4 D (.lst (acc ++ [y]))) else Nx H3) := by
  have fl : ∀ i ≤ n, flatDs ((List.range i).filterMap R) = true := fun i hi => flatDs_of _ fun d hd => by
    obtain ⟨j, hj, e⟩ := List.mem_filterMap.mp hd
    exact hfl j (by have := List.mem_range.mp hj; omega) d e
  refine lc_it wk (fun i H => ∃ acc, Same H1 H ∧ H D = some (.lst acc) ∧ DpAll K H acc ((List.range i).filterMap R) ∧ acc.length ≤ i) ⟨[], same_new hD, upd_same, .nil, Nat.le_refl _⟩ (fun i H _ z => ?_) ?_ ?_
  · obtain ⟨acc, s, _⟩ := z
    exact hG H s
  · rintro i x H H' hi ⟨acc, s, hacc, ha, hl⟩ y
    refine hs i x H H' hi s y _ _ (fun v H4 d e s4 hv => ?_) (fun H3 e s3 => ?_)
    · have hD4 := s4 _ _ hacc
      refine ⟨acc, hD4, Nat.lt_of_le_of_lt hl (Nat.lt_of_lt_of_le (show i < 100000 by omega) (by decide)), acc ++ [v], same_put (s.trans s4) hD, upd_same, ?_, by rw [List.length_append]; exact Nat.succ_le_succ hl⟩
      rw [List.range_succ, List.filterMap_append]
      have e1 : ([i].filterMap R) = [d] := by simp [e]
      rw [e1]
      exact DpAll.snoc (dp_keep (fun _ _ q => sqt_put hD4 q) _ _ (hfl i hi d e) hv) (dps_keep (fun _ _ q => sqt_put hD4 q) _ _ (fl i (by omega)) (dps_same s4 _ _ ha))
    · refine ⟨acc, s.trans s3, s3 _ _ hacc, ?_, by omega⟩
      rw [List.range_succ, List.filterMap_append]
      have e1 : ([i].filterMap R) = [] := by simp [e]
      rw [e1, List.append_nil]
      exact dps_same s3 _ _ ha
  · rintro H ⟨acc, s, hacc, ha, _⟩
    exact hd H acc s hacc ha
/-- a comprehension that draws: each item is data that is good -/
theorem lc_draw {K : PySem.W.Frag} {M : Addr → Prop} {J : It} {n : Nat} {G : Hp → Prop} {Y : Nat → Hp → V → Hp → Prop} (wk : Walk J n G Y) {g : TG} {tt : TT} {te : TE} {vs : List Nat} {σ : L2.St} {H1 : Hp} {D : Addr} {Qd : Hp → Prop}
    (I : Hp → Prop) (Gd : PyData → Prop) (hM : ∀ a, M a → ∃ xs, H1 a = some (.lst xs)) (h0 : I (upd H1 D (.lst []))) (hI : ∀ H ys, Kp M H1 H → I H → I (upd H D (.lst ys)))
    (hD : H1 D = Option.none) (hn : n ≤ 100000) (hG : ∀ H, Kp M H1 H → I H → G H) (hfl : ∀ d, Gd d → flatD d = true)
    (hs : ∀ i x H H', i < n → Kp M H1 H → I H → Y i H x H' → ∀ (Q1 : VK) (Q0 : Hp → Prop), (∀ v H4 d, Gd d → Kp M H H4 → I H4 → Dp K H4 v d → Q1 v H4) → (∀ H3, Kp M H H3 → I H3 → Q0 H3) →
      g x (wipe σ vs) H' fun σ2 H2 => wipe σ2 vs = wipe σ vs ∧ tt σ2 H2 fun b H3 => if b = true then te σ2 H3 Q1 else Q0 H3)
    (hd : ∀ H acc ds, Kp M H1 H → I H → H D = some (.lst acc) → DpAll K H acc ds → (∀ d ∈ ds, Gd d) → ds.length ≤ n → Qd H) :
    ∃ W : Nat → Nat → Hp → Prop, (∃ m, W 0 m (upd H1 D (.lst []))) ∧ ∀ i m H, W i m H →
      (J.stop i H ∧ Qd H) ∨ (J.go i H ∧ ∃ Nx : Hp → Prop, (∀ H', Nx H' → ∃ m', m' < m ∧ W (i + 1) m' H') ∧ ∀ x H', J.yld i H x H' → g x (wipe σ vs) H' fun σ2 H2 => wipe σ2 vs = wipe σ vs ∧ tt σ2 H2 fun b H3 =>
        if b = true then te σ2 H3 fun y H4 => ∃ acc, H4 D = some (.lst acc) ∧ acc.length < sizeLine ∧ Nx (upd H4 D (.lst (acc ++ [y]))) else Nx H3) := by
  have nM : ¬ M D := fun m => by
    obtain ⟨xs, e⟩ := hM D m
    rw [hD] at e
    cases e
  refine lc_it wk (fun i H => ∃ acc ds, Kp M H1 H ∧ I H ∧ H D = some (.lst acc) ∧ DpAll K H acc ds ∧ (∀ d ∈ ds, Gd d) ∧ ds.length ≤ i) ⟨[], [], Kp.new hM hD, h0, upd_same, .nil, (by intro d hd; cases hd), Nat.le_refl _⟩ (fun i H _ z => ?_) ?_ ?_
  · obtain ⟨acc, ds, s, iH, _⟩ := z
    exact hG H s iH
  · rintro i x H H' hi ⟨acc, ds, s, iH, hacc, ha, hg, hl⟩ y
    have fl : flatDs ds = true := flatDs_of _ fun d hd => hfl d (hg d hd)
    refine hs i x H H' hi s iH y _ _ (fun v H4 d e s4 i4 hv => ?_) (fun H3 s3 i3 => ?_)
    · have hD4 := s4.st _ _ nM hacc
      refine ⟨acc, hD4, ?_, acc ++ [v], ds ++ [d], (s.trans s4).mut hD, hI _ _ (s.trans s4) i4, upd_same, ?_, ?_, by rw [List.length_append]; exact Nat.succ_le_succ hl⟩
      · rw [DpAll.len ha]
        exact Nat.lt_of_le_of_lt hl (Nat.lt_of_lt_of_le (show i < 100000 by omega) (by decide))
      · exact DpAll.snoc (dp_keep (fun _ _ q => sqt_put hD4 q) _ _ (hfl d e) hv) (dps_keep (fun _ _ q => sqt_put hD4 q) _ _ fl (dps_keep (fun _ _ q => s4.tup q) _ _ fl ha))
      · intro d' hd'
        rcases List.mem_append.mp hd' with q | q
        · exact hg d' q
        · cases List.mem_singleton.mp q
          exact e
    · exact ⟨acc, ds, s.trans s3, i3, s3.st _ _ nM hacc, dps_keep (fun _ _ q => s3.tup q) _ _ fl ha, hg, by omega⟩
  · rintro H ⟨acc, ds, s, iH, hacc, ha, hg, hl⟩
    exact hd H acc ds s iH hacc ha hg hl
/-! ### data that repr takes -/
structure Sm (D W : Nat) (d : PyData) : Prop where
  ok : okD d = true
  dp : d.depth ≤ D
  wt : d.weight ≤ W
theorem Sm.mono {D W D' W' : Nat} {d : PyData} (x : Sm D W d) (h1 : D ≤ D') (h2 : W ≤ W') : Sm D' W' d := ⟨x.ok, Nat.le_trans x.dp h1, Nat.le_trans x.wt h2⟩
theorem sm_int {i : Int} (h : i.natAbs < 10 ^ 12) : Sm 0 64 (.int i) := ⟨by simp only [okD]; exact decide_eq_true h, by simp [PyData.depth], wt_int h⟩
theorem sm_all {D W : Nat} : ∀ {ds : List PyData}, (∀ d ∈ ds, Sm D W d) → okDs ds = true ∧ PyData.depthAll ds ≤ D ∧ PyData.weightAll ds ≤ ds.length * (W + 2)
  | [], _ => ⟨rfl, by simp [PyData.depthAll], by simp [PyData.weightAll]⟩
  | d :: ds, h => by
    have a := h d List.mem_cons_self
    obtain ⟨b1, b2, b3⟩ := sm_all (ds := ds) fun x hx => h x (List.mem_cons_of_mem _ hx)
    refine ⟨by simp [okDs, a.ok, b1], ?_, ?_⟩
    · have := a.dp
      simp only [PyData.depthAll]
      omega
    · have := a.wt
      simp only [PyData.weightAll, List.length_cons, Nat.add_mul]
      omega
theorem Sm.tuple {D W m : Nat} {ds : List PyData} (h : ∀ d ∈ ds, Sm D W d) (hm : ds.length ≤ m) : Sm (D + 1) (m * (W + 2)) (.tuple ds) := by
  obtain ⟨a, b, c⟩ := sm_all h
  refine ⟨by simpa [okD] using a, ?_, ?_⟩
  · simp only [PyData.depth]
    omega
  · simp only [PyData.weight]
    exact Nat.le_trans c (Nat.mul_le_mul_right _ hm)
theorem Sm.rep {K : PySem.W.Frag} {H : Hp} {x : V} {D W : Nat} {d : PyData} {Q : VK} (s : Sm D W d) (h1 : D ≤ 60) (h2 : W ≤ 2 ^ 20) (hd : Rp K H x d) (q : Q (.str d.shown) H) : rRepr K [x] H Q :=
  ⟨x, d, rfl, hd, s.ok, Nat.le_trans s.dp h1, Nat.le_trans s.wt h2, q⟩
theorem sm_kv {D W : Nat} : ∀ {es : List (Int × PyData)}, (∀ e ∈ es, e.1.natAbs < 10 ^ 12 ∧ Sm D W e.2) → okDk (es.map fun e => (PyData.int e.1, e.2)) = true ∧ PyData.depthKv (es.map fun e => (PyData.int e.1, e.2)) ≤ D ∧ PyData.weightKv (es.map fun e => (PyData.int e.1, e.2)) ≤ es.length * (W + 70)
  | [], _ => ⟨rfl, by simp [PyData.depthKv], by simp [PyData.weightKv]⟩
  | e :: es, h => by
    obtain ⟨a1, a⟩ := h e List.mem_cons_self
    obtain ⟨b1, b2, b3⟩ := sm_kv (es := es) fun x hx => h x (List.mem_cons_of_mem _ hx)
    have i := sm_int a1
    refine ⟨by simp [okDk, a.ok, b1, i.ok], ?_, ?_⟩
    · have := a.dp
      have := i.dp
      simp only [List.map_cons, PyData.depthKv]
      omega
    · have := a.wt
      have := i.wt
      simp only [List.map_cons, PyData.weightKv, List.length_cons, Nat.add_mul] at this ⊢
      omega
/-- what repr is asked of -/
def Rok (K : PySem.W.Frag) (H : Hp) (x : V) (d : PyData) : Prop := Rp K H x d ∧ okD d = true ∧ d.depth ≤ 60 ∧ d.weight ≤ 2 ^ 20
theorem Sm.rok {K : PySem.W.Frag} {H : Hp} {x : V} {D W : Nat} {d : PyData} (s : Sm D W d) (h1 : D ≤ 60) (h2 : W ≤ 2 ^ 20) (hd : Rp K H x d) : Rok K H x d :=
  ⟨hd, s.ok, Nat.le_trans s.dp h1, Nat.le_trans s.wt h2⟩
/-- the whole dict of things -/
theorem ThAt.rok {K : PySem.W.Frag} {H : Hp} {d : Addr} {es : List (Int × PyData)} {kvs : List (Key × V)} (x : ThAt K H d es kvs) {n : Nat} (hk : es.map (·.1) = births n) (hn : n ≤ 100) : Rok K H (.ref d) (PyData.dict (es.map fun e => (PyData.int e.1, e.2))) := by
  obtain ⟨a, b, c⟩ := sm_kv (D := 8) (W := 4000) (es := es) fun e he => by
    have m : e.1 ∈ births n := by rw [← hk]; exact List.mem_map.mpr ⟨e, he, rfl⟩
    have := births_mem.mp m
    exact ⟨by omega, ⟨(x.th e he).ok, (x.th e he).dp, (x.th e he).wt⟩⟩
  have hl : es.length = n := by
    have e := congrArg List.length hk
    rw [List.length_map, births_len] at e
    exact e
  refine ⟨.inr ⟨d, kvs, es, rfl, x.at_, x.ks, x.vs, x.fl, rfl⟩, by simpa [okD] using a, ?_, ?_⟩
  · simp only [PyData.depth]
    omega
  · simp only [PyData.weight]
    refine Nat.le_trans c ?_
    rw [hl]
    exact Nat.le_trans (Nat.mul_le_mul_right _ hn) (by decide)
end Cm

/-! defs that may ask repr, called by name where nothing is under repr -/
namespace Cm
open PySem L2 PySem.Spec PyProof.Rows
structure ClG (P : Program) (w : World) (K : PySem.W.Frag) (mg : Str → Option Value) (base : Heap) (k : Nat) (x : Str) (sp : Sp) : Prop where
  ex : ∃ (f : Addr) (fd : FuncData) (ps : List Str), (∀ vs H Q E, sp vs H Q E → vs.length = ps.length) ∧ LawAt P w K mg base k f fd ps sp ∧ mg x = some (.ref f) ∧ PySem.W.keepIn K (.ref f) = true ∧ Binds K fd ps []
section
variable {P : Program} {w : World} {K : PySem.W.Frag} {mg : Str → Option Value} {base : Heap}
theorem clG_of {x : Str} {st : Stmt} {N ps : List Str} {k : Nat} {sp : Sp} (T : At K mg x st ps) (S : FnScope N ps (defScope st))
    (len : ∀ vs H Q E, sp vs H Q E → vs.length = ps.length)
    (hb : ∀ (f : Addr) (cdv : Value) (A : Around) (outer : List Env) (s : Shared) (H : Hp) (vs : List V) (Q : VK) (E : XK), (A.deeper (envOfC x (defScope st) s.heap.objs.size f cdv)).guards = some [] →
      Room k (A.deeper (envOfC x (defScope st) s.heap.objs.size f cdv)) → sp vs H Q E →
      ∃ t, PSs (cxOf CX0 P w K mg base N x (defScope st) f cdv A outer s H E).nox (defBody st) t ∧ t { nx := fun _ H' => Q .non H', rt := Q } (start N vs) H) :
    ClG P w K mg base (k + 1) x sp := by
  obtain ⟨f, fd, F, hm, b⟩ := T.ex
  exact ⟨f, fd, ps, len, lawAt_of F S len fun cdv A outer s H vs Q E hg => hb f cdv A outer s H vs Q E hg, hm, F.kp, b⟩
end
section
variable {X : Cx} {j k : Nat} {x : Str} {sp : Sp} {e : Expr} {es : List Expr} {t : TA} {p pos : Pos}
theorem pe_cG (c : ClG X.prog X.w X.K X.mg X.base k x sp) (hgd : X.A.guards = some []) (hr : Room j X.A) (hk : k ≤ j) (hg : Gl X x) (ha : PA X (e :: es) t)
    (hdb : (x == ("__debug__" : Str)) = false := by decide) (he : starEach (e :: es) X.env = (false, eval e X.env) :: starEach es X.env := by rfl)
    (hpl : (backTo pos (starEach es X.env)).any (·.1) = false := by rfl) : PE X (.Call (.Name x p) (e :: es) [] pos) (tCall sp [] E0 t) := by
  obtain ⟨f, fd, ps, len, F, hm, kp, b⟩ := c.ex
  refine ⟨fun pins s σ H Q I h => ?_⟩
  refine wpAny_Call_Name_kw (ld_glob I hg hm ?_ hdb)
  refine PySem.W.callWith_K (h₀ := X.base) I.ok.mod.kin kp (thn (ha.run pos pins s σ H _ I h) fun us s1 ⟨vs, H1, I1, r, q⟩ => ⟨I1.kIn, ?_⟩) he hpl
  have q' : sp vs H1 Q E0 := by
    have q0 : sp (vs ++ []) H1 Q E0 := q
    rwa [List.append_nil] at q0
  have hl : us.length = ps.length := by rw [← r.length]; exact len _ _ _ _ q'
  have hb := b s1 us I1.kIn (by rw [List.append_nil]; exact hl)
  rw [List.append_nil] at hb
  refine wpAny_call (codeAny_mono (F X.A X.stack s1 H1 ⟨us, []⟩ us vs Q E0 hgd (hr.mono hk) I1.env0 hb r q') fun r s' hq => ?_)
  cases r with
  | error e => exact pass0 pins σ H1 s1 e s' I1 hq
  | ok fl =>
    cases fl with
    | ret u => exact I1.after hq
    | next => exact False.elim hq
    | brk => exact False.elim hq
    | cont => exact False.elim hq
end
/-! ### a walk over a list or a tuple -/
def iSeq (K : PySem.W.Frag) (tl : TE) : TI := fun σ H R => tl σ H fun x H1 => ∃ a, x = .ref a ∧ ((∃ xs, SqL K H1 a xs) ∧ R (Itl K a) H1 ∨ (∃ xs, SqT K H1 a xs) ∧ R (Itt K a) H1)
theorem pi_seq {X : Cx} {tg l : Expr} {tl : TE} (hl : PE X l tl) : PI X tg l (iSeq X.K tl) := by
  refine ⟨fun pins s σ H R I h => ?_⟩
  refine thn (hl.run pins s σ H _ I h) fun v s1 ⟨x, H1, I1, r1, q1⟩ => ?_
  obtain ⟨a, rfl, q1⟩ := q1
  cases r1
  have fp : ∀ b ∈ [s1.heap.objs.size], b = s1.heap.objs.size := fun b hb => by simpa using hb
  rcases q1 with ⟨⟨xs, hq⟩, q⟩ | ⟨⟨xs, hq⟩, q⟩
  · obtain ⟨its, rv, p, hz⟩ := I1.list hq
    refine wpAny_pyIter_list p.isList ?_
    refine ⟨_, _, _, _, H1, rfl, I1.kept (t' := s1.toks) fun b o e => Heap.get?_push_of_some _ e, turn_list a _, ⟨_, Heap.get?_push_size _ rfl, rfl, rfl⟩, fun b hb => ?_, q⟩
    cases fp b hb
    exact I1.fpOk (Nat.le_refl _) (I1.hok.fresh (Nat.le_refl _))
  · obtain ⟨its, rv, p, hz⟩ := I1.tuple hq
    refine wpAny_pyIter_tuple (show s1.heap.IsTuple a its.toArray from p) ?_
    refine ⟨_, _, _, _, H1, rfl, I1.kept (t' := s1.toks) fun b o e => Heap.get?_push_of_some _ e, turn_tuple a _, ⟨_, Heap.get?_push_size _ rfl, rfl, rfl⟩, fun b hb => ?_, q⟩
    cases fp b hb
    exact I1.fpOk (Nat.le_refl _) (I1.hok.fresh (Nat.le_refl _))
theorem ks_tupA {X : Cx} {K : PySem.W.Frag} (h : X.K = K := by rfl) : SlR X (rSlA K) := by subst h; exact sl_tupA
theorem ne_same (x : V) : (!decide (x = x)) = false := by simp
theorem tyx_tup {K : PySem.W.Frag} {H : Hp} {a : Addr} {xs : List V} (h : SqT K H a xs) : TyX K H (.ref a) (.type "tuple") := by
  rcases h with (h | ⟨o, h⟩) | ⟨o, its, n, e, c, _⟩
  · exact .base (.tup h)
  · exact .fTuple h
  · exact .kTuple e c
theorem kit_tup {K : PySem.W.Frag} : PySem.W.kitOne K (.type "tuple") (.type "tuple") = some true := by rfl
end Cm

namespace K11
open PySem L2 Cm
def top (i : Nat) : Stmt := PySem.Challenge.pw_goonagain_k11_whole_laying_on_and_taking.main.body.getD i (.Pass ⟨0, 0, 0, 0⟩)
structure Txt (mg : Str → Option Value) : Prop where
  abs : mg "abs" = none
  enumerate : mg "enumerate" = none
  int : mg "int" = none
  len : mg "len" = none
  max : mg "max" = none
  min : mg "min" = none
  range : mg "range" = none
  repr : mg "repr" = none
  sorted : mg "sorted" = none
  tuple : mg "tuple" = none
  zip : mg "zip" = none
section
variable {P : Program} {w : World} {K : PySem.W.Frag} {mg : Str → Option Value} {base : Heap}
-- mix
abbrev s_l_mix : Stmt := top 10
abbrev N_l_mix : List Str := ["_law_number", "_law_turn", "_law_once", "_law_twice"]
theorem sc_l_mix : FnScope N_l_mix ["_law_number", "_law_turn"] (defScope s_l_mix) := ⟨rfl, rfl, rfl, by decide +kernel, rfl, by decide +kernel, by decide +kernel⟩
theorem ok_mix (T : Txt mg) (D : At K mg "_law_mix" s_l_mix ["_law_number", "_law_turn"]) : Cl P w K mg base 1 "_law_mix" spMix := by
  refine cl_of D sc_l_mix (fun vs H Q E h => ?_) fun f cdv A outer s H vs Q E hr h => ?_
  · obtain ⟨a, b, rfl, _⟩ := h
    rfl
  · obtain ⟨a, b, rfl, k⟩ := h
    refine ⟨_, (pss_cons (ps_set (i := 2) sc_l_mix.nd rfl (Or.inl rfl) (pe_op op_mod (pe_callTy call_int1 (by rfl) T.int (by decide +kernel) (pa_cons (pe_op op_add (pe_op op_add (pe_op op_mul (pv 0) pe_int) (pe_op op_mul (pv 1) pe_int)) pe_int) pa_nil)) pe_int))
      (pss_cons (ps_set (i := 3) sc_l_mix.nd rfl (Or.inl rfl) (pe_op op_mod (pe_callTy call_int1 (by rfl) T.int (by decide +kernel) (pa_cons (pe_op op_add (pe_op op_add (pe_op op_mul (pv 2) (pv 2)) (pe_op op_mul (pe_op op_fdiv (pv 2) pe_int) pe_int)) (pe_op op_mul (pv 1) pe_int)) pa_nil)) pe_int))
      (pss_one (ps_ret (pe_op op_fdiv (pe_op op_mod (pe_callTy call_int1 (by rfl) T.int (by decide +kernel) (pa_cons (pe_op op_add (pe_op op_fdiv (pe_op op_mul (pv 3) (pv 3)) pe_int) (pv 2)) pa_nil)) pe_int) pe_int))))), ?_⟩
    refine ⟨_, rfl, _, _, rfl, rfl, .inr (by decide), ?_⟩
    refine ⟨_, rfl, _, _, rfl, rfl, .inr (by decide), ?_⟩
    refine ⟨_, _, rfl, rfl, _, _, rfl, rfl, .inl ⟨_, rfl, _, _, rfl, rfl, (by show (0 : Int) < _; decide), ?_⟩⟩
    generalize hx : (a * 48271 + b * 16807 + 11) % 2147483647 = x
    have x0 : 0 ≤ x := by omega
    have x1 : x < 2147483647 := by omega
    clear hx
    refine ⟨_, rfl, _, rfl, _, _, rfl, rfl, .inl ⟨by omega, by omega⟩, ?_⟩
    refine ⟨_, rfl, _, _, rfl, rfl, ⟨by decide, by decide⟩, _, _, rfl, rfl, .inr (by decide), ?_⟩
    refine ⟨_, _, rfl, rfl, _, rfl, _, _, rfl, rfl, .inr (by decide), _, _, rfl, rfl, .inl ⟨_, rfl, _, _, rfl, rfl, (by show (0 : Int) < _; decide), ?_⟩⟩
    generalize hy : (x * x + x / 127 * 40692 + b * 69621) % 2147483399 = y
    have y0 : 0 ≤ y := by omega
    have y1 : y < 2147483399 := by omega
    clear hy
    refine ⟨_, rfl, _, rfl, _, _, rfl, rfl, .inl ⟨by omega, by omega⟩, _, _, rfl, rfl, ⟨by decide, by decide⟩, ?_⟩
    refine ⟨_, rfl, _, _, rfl, rfl, .inl ⟨_, rfl, _, _, rfl, rfl, (by show (0 : Int) < _; decide), _, _, rfl, rfl, ⟨by decide, by decide⟩, ?_⟩⟩
    exact k _
-- hand
abbrev s_l_hand : Stmt := top 11
abbrev N_l_hand : List Str := ["_law_script", "_law_total", "_law_k", "_law_cell"]
theorem sc_l_hand : FnScope N_l_hand ["_law_script"] (defScope s_l_hand) := ⟨rfl, rfl, rfl, by decide +kernel, rfl, by decide +kernel, by decide +kernel⟩
theorem ok_hand (T : Txt mg) (D : At K mg "_law_hand" s_l_hand ["_law_script"]) : Cl P w K mg base 1 "_law_hand" (spHand K) := by
  refine cl_of D sc_l_hand (fun vs H Q E h => ?_) fun f cdv A outer s H vs Q E hr h => ?_
  · obtain ⟨a, ns, rfl, _⟩ := h
    rfl
  · obtain ⟨a, ns, rfl, hS, hlen, k⟩ := h
    refine ⟨_, (pss_cons (ps_set (i := 1) sc_l_hand.nd rfl (Or.inl rfl) pe_int)
      (pss_cons (ps_for PassesOwn.never rfl (pi_enum (by rfl) T.enumerate (pa_cons (pv 0) pa_nil)) (pg_tup (by rfl) (pgs_cons (pg_name (i := 2) sc_l_hand.nd rfl (Or.inl rfl)) (pgs_cons (pg_name (i := 3) sc_l_hand.nd rfl (Or.inl rfl)) pgs_nil)))
        (pss_one (ps_set (i := 1) sc_l_hand.nd rfl (Or.inl rfl) (pe_op op_mod (pe_callTy call_int1 (by rfl) T.int (by decide +kernel) (pa_cons (pe_op op_add (pe_op op_mul (pv 1) pe_int) (pe_op op_mul (pe_callTy call_int1 (by rfl) T.int (by decide +kernel) (pa_cons (pv 3) pa_nil)) (pe_op op_add (pv 2) pe_int))) pa_nil)) pe_int))))
      (pss_one (ps_ret (pe_lst (pa_cons (pe_lc (own := [("_law_cell", 3)]) rfl sc_l_hand.nd (pi_list (pv 0)) (blkOk_by (N := N_l_hand) (sc := defScope s_l_hand) (by decide +kernel))
      (fun _ _ _ _ _ => (pg_name (i := 3) sc_l_hand.nd rfl (Or.inl rfl)))
      (fun _ _ _ _ _ => pts_nil)
      (fun _ _ _ _ _ => (pe_callB call_abs (by rfl) T.abs (by decide +kernel) (pa_cons (pe_callTy call_int1 (by rfl) T.int (by decide +kernel) (pa_cons (pv 3) pa_nil)) pa_nil)))) (pa_cons pe_int (pa_cons pe_int (pa_cons (pv 1) pa_nil))))))))), ?_⟩
    refine ⟨_, rfl, a, _, rfl, hS, ?_⟩
    refine for_it (walk_enum (xs := ns.map V.int)) (fun i σ H' => ∃ (t : Int) (v2 v3 : Option V), σ = [some (.ref a), some (.int t), v2, v3] ∧ Same H H') ⟨0, none, none, rfl, Same.refl H⟩ (fun i σ H' _ z => ?_) ?_ ?_
    · obtain ⟨t, v2, v3, rfl, s1⟩ := z
      exact s1.seq hS
    · rintro i x σ H1 H2 hi ⟨t, v2, v3, rfl, s1⟩ ⟨T1, x1, x2, rfl, hT, rfl, e1, e2⟩
      cases e1
      obtain ⟨n, en, rfl⟩ := map_at e2
      refine ⟨T1, _, rfl, .inl (.inl upd_same), rfl, _, _, rfl, _, _, rfl, rfl, ?_⟩
      refine ⟨_, rfl, _, _, rfl, rfl, .inr (by decide), _, rfl, .inl ⟨_, rfl, ?_⟩⟩
      refine ⟨_, rfl, _, _, rfl, rfl, _, _, rfl, rfl, .inr ⟨?_, ?_⟩, ?_⟩
      · rw [List.length_map] at hi
        omega
      · rw [List.length_map] at hi
        omega
      refine ⟨_, _, rfl, rfl, .inl ⟨_, rfl, _, _, rfl, rfl, (by show (0 : Int) < _; decide), ?_⟩⟩
      exact ⟨_, _, _, rfl, s1.trans (same_new hT)⟩
    · rintro σ H1 ⟨t, v2, v3, rfl, s1⟩
      refine ⟨_, rfl, a, rfl, ⟨_, s1.seq hS⟩, fun D hD => ?_⟩
      refine lc_it (walk_list (xs := ns.map V.int)) (fun i H' => ∃ acc : List Int, Same H1 H' ∧ H' D = some (.lst (acc.map V.int)) ∧ acc.length = i) ⟨[], same_new hD, upd_same, rfl⟩ (fun i H' _ z => ?_) ?_ ?_
      · obtain ⟨acc, s2, _⟩ := z
        exact (s1.trans s2).seq hS
      · rintro i x H2 H3 hi ⟨acc, s2, hacc, hl⟩ ⟨rfl, e2⟩
        obtain ⟨n, en, rfl⟩ := map_at e2
        rw [List.length_map] at hi
        refine ⟨rfl, ?_⟩
        refine ⟨_, rfl, .inl ⟨_, rfl, _, rfl, _, hacc, ?_, ?_⟩⟩
        · rw [List.length_map]
          exact Nat.lt_of_lt_of_le (show acc.length < 63 by omega) (by decide)
        · refine ⟨acc ++ [if n < 0 then -n else n], fun b o e => ?_, ?_, ?_⟩
          · have hb : b ≠ D := ne_of_none e hD
            rw [upd_ne hb]
            exact s2 b o e
          · rw [upd_same, List.map_append]
            rfl
          · rw [List.length_append, hl]
            rfl
      · rintro H2 ⟨acc, s2, hacc, hl⟩
        refine ⟨_, rfl, by show 4 ≤ sizeLine; decide, fun p hp => ?_⟩
        rw [List.length_map] at hl
        have npD : D ≠ p := ne_of_none hacc hp
        refine k p D _ ((s1.trans s2).trans (same_new hp)) ((s1.trans s2).free hp) (s1.free hD) ⟨acc, _, _, _, upd_same, ?_, npD, Int.le_refl 0, by omega⟩
        rw [upd_ne npD]
        exact hacc
end
end K11

namespace K11
open PySem L2 Cm
section
variable {P : Program} {w : World} {K : PySem.W.Frag} {mg : Str → Option Value} {base : Heap}
abbrev s_l_draw : Stmt := top 12
abbrev N_l_draw : List Str := ["_law_hand_here", "_law_many", "_law_cell", "_law_rest"]
theorem sc_l_draw : FnScope N_l_draw ["_law_hand_here", "_law_many"] (defScope s_l_draw) := ⟨rfl, rfl, rfl, by decide +kernel, rfl, by decide +kernel, by decide +kernel⟩
theorem ok_draw (T : Txt mg) (c_l_mix : Cl P w K mg base 1 "_law_mix" spMix) (D : At K mg "_law_draw" s_l_draw ["_law_hand_here", "_law_many"]) : Cl P w K mg base 2 "_law_draw" spDraw := by
  refine cl_of D sc_l_draw (fun vs H Q E h => ?_) fun f cdv A outer s H vs Q E hr h => ?_
  · obtain ⟨h, c, m, rfl, _⟩ := h
    rfl
  · obtain ⟨h, c, m, rfl, ⟨cells, i, b, t, e1, e2, nch, hi, hlen⟩, hm0, hm1, k⟩ := h
    refine ⟨_, (pss_mid (ps_if (PW.pt (pw_and (pt_cmpR op_eq (pe_ix ix_list (pv 0) pe_int (fun _ _ => rfl)) pe_int (nomark _)) (pw_and1 (pt_cmpR op_lt (pe_ix ix_list (pv 0) pe_int (fun _ _ => rfl)) (pe_callB call_len_seq (by rfl) T.len (by decide +kernel) (pa_cons (pe_ix ix_list (pv 0) pe_int (fun _ _ => rfl)) pa_nil)) (nomark _)))))
        (pss_cons (ps_set (i := 2) sc_l_draw.nd rfl (Or.inl rfl) (pe_ix ix_list (pe_ix ix_list (pv 0) pe_int (fun _ _ => rfl)) (pe_ix ix_list (pv 0) pe_int (fun _ _ => rfl)) (fun _ _ => rfl)))
        (pss_cons (ps_asg (pe_op op_add (pe_ix ix_list (pv 0) pe_int (fun _ _ => rfl)) pe_int) (pg_sub (pv 0) pe_int set_list))
        (pss_cons (ps_if (pt_cmpR op_lt (pv 2) (pe_op op_pow pe_int pe_int) (nomark _))
          (pss_one (ps_ret (pe_op op_mod (pe_callTy call_int1 (by rfl) T.int (by decide +kernel) (pa_cons (pe_c c_l_mix hr (by decide) (by rfl) (pa_cons (pe_op op_mod (pe_callTy call_int1 (by rfl) T.int (by decide +kernel) (pa_cons (pv 2) pa_nil)) pe_int) (pa_cons (pe_ix ix_list (pv 0) pe_int (fun _ _ => rfl)) pa_nil))) pa_nil)) (pv 1))))
          pss_nil)
        (pss_one (ps_asg (pv 2) (pg_sub (pv 0) pe_int set_list))))))
        pss_nil)
      (pss_cons (ps_if (pt_cmpR op_gt (pe_ix ix_list (pv 0) pe_int (fun _ _ => rfl)) pe_int (nomark _))
        (pss_cons (ps_set (i := 3) sc_l_draw.nd rfl (Or.inl rfl) (pe_ix ix_list (pv 0) pe_int (fun _ _ => rfl)))
        (pss_cons (ps_asg (pe_op op_fdivW (pv 3) (pv 1)) (pg_sub (pv 0) pe_int set_list))
        (pss_one (ps_ret (pe_op op_mod (pe_callTy call_int1 (by rfl) T.int (by decide +kernel) (pa_cons (pv 3) pa_nil)) (pv 1))))))
        pss_nil)
      (pss_cons (ps_asg (pe_op op_mod (pe_callTy call_int1 (by rfl) T.int (by decide +kernel) (pa_cons (pe_op op_add (pe_ix ix_list (pv 0) pe_int (fun _ _ => rfl)) pe_int) pa_nil)) pe_int) (pg_sub (pv 0) pe_int set_list))
      (pss_one (ps_ret (pe_op op_mod (pe_callTy call_int1 (by rfl) T.int (by decide +kernel) (pa_cons (pe_c c_l_mix hr (by decide) (by rfl) (pa_cons (pe_ix ix_list (pv 0) pe_int (fun _ _ => rfl)) (pa_cons (pe_ix ix_list (pv 0) pe_int (fun _ _ => rfl)) pa_nil))) pa_nil)) (pv 1))))))), ?_⟩
    have big : CDivW b m := wide_div (b := 100) hm0 (by omega) (by decide) (by decide)
    have kh0 : ∀ {ys : List V}, Kh h H (upd H h (.lst ys)) := Kp.put (fun a ha => by rw [ha]; exact ⟨_, e1⟩) rfl
    refine ⟨fun σ' H' => ∃ (i b t : Int) (v2 v3 : Option V), σ' = [some (.ref h), some (.int m), v2, v3] ∧ Kh h H H' ∧ H' h = some (.lst [.ref c, .int i, .int b, .int t]) ∧ H' c = some (.lst (cells.map V.int)) ∧ 0 ≤ i, ?_, ?_⟩
    · refine ⟨_, rfl, _, _, _, _, rfl, rfl, .inl (.inl e1), rfl, rfl, _, rfl, ?_⟩
      refine ite2 (fun _ => ?_) (fun _ => ?_)
      · refine ⟨_, rfl, _, _, _, _, rfl, rfl, .inl (.inl e1), rfl, _, rfl, _, _, _, _, rfl, rfl, .inl (.inl e1), rfl, c, _, rfl, .inl (.inl (.inl e2)), _, _, rfl, rfl, _, rfl, ?_⟩
        refine ite2 (fun hlt => ?_) (fun _ => ?_)
        · have hlt' : i < (cells.length : Int) := by
            have := of_decide_eq_true hlt
            rw [List.length_map] at this
            exact this
          obtain ⟨j, rfl⟩ : ∃ j : Nat, i = (j : Int) := ⟨i.toNat, by omega⟩
          have hj : j < cells.length := by omega
          have hat : atI (cells.map V.int) (j : Int) = some (.int cells[j]) := atI_nat (by rw [List.getElem?_map, List.getElem?_eq_getElem hj]; rfl)
          refine ⟨_, rfl, _, _, _, _, rfl, rfl, .inl (.inl e1), rfl, _, rfl, _, _, _, _, rfl, rfl, .inl (.inl e1), rfl, c, _, _, _, rfl, rfl, .inl (.inl e2), hat, ?_⟩
          refine ⟨_, rfl, _, _, _, _, rfl, rfl, .inl (.inl e1), rfl, _, _, rfl, rfl, _, rfl, h, _, _, 1, rfl, rfl, e1, rfl, ?_⟩
          have e2' : upd H h (.lst [.ref c, .int ((j : Int) + 1), .int b, .int t]) c = some (.lst (cells.map V.int)) := by rw [upd_ne nch]; exact e2
          refine ⟨_, rfl, _, _, rfl, rfl, ⟨by decide, by decide, by decide⟩, _, _, rfl, rfl, _, rfl, ?_⟩
          refine ite2 (fun _ => ?_) (fun _ => ?_)
          · refine ⟨_, rfl, .inl ⟨_, rfl, _, _, rfl, rfl, (by show (0 : Int) < _; decide), _, rfl, _, _, _, _, rfl, rfl, .inl (.inl upd_same), rfl, ?_⟩⟩
            refine ⟨_, _, rfl, fun n => .inl ⟨_, rfl, _, rfl, _, _, rfl, rfl, hm0, ?_⟩⟩
            exact k _ _ (Int.emod_nonneg _ (by omega)) (Int.emod_lt_of_pos _ hm0) kh0 ⟨cells, _, _, _, upd_same, e2', nch, by omega, hlen⟩
          · refine ⟨_, rfl, _, rfl, h, _, _, 2, rfl, rfl, upd_same, rfl, ?_⟩
            rw [upd_upd]
            exact ⟨_, _, _, _, _, rfl, kh0, upd_same, by rw [upd_ne nch]; exact e2, by omega⟩
        · exact ⟨i, b, t, _, _, rfl, Kp.refl (fun a ha => by rw [ha]; exact ⟨_, e1⟩), e1, e2, hi⟩
      · exact ⟨i, b, t, _, _, rfl, Kp.refl (fun a ha => by rw [ha]; exact ⟨_, e1⟩), e1, e2, hi⟩
    · rintro σ' H' ⟨i, b, t, v2, v3, rfl, kh, e1, e2, hi⟩
      have kh1 : ∀ {ys : List V}, Kh h H (upd H' h (.lst ys)) := kh.trans (Kp.put (fun a ha => by rw [ha]; exact ⟨_, e1⟩) rfl)
      refine ⟨_, rfl, _, _, _, _, rfl, rfl, .inl (.inl e1), rfl, _, _, rfl, rfl, _, rfl, ?_⟩
      refine ite2 (fun _ => ?_) (fun _ => ?_)
      · refine ⟨_, rfl, _, _, _, _, rfl, rfl, .inl (.inl e1), rfl, _, rfl, _, rfl, _, _, rfl, rfl, big, _, rfl, h, _, _, 2, rfl, rfl, e1, rfl, ?_⟩
        refine ⟨_, rfl, .inl ⟨_, rfl, _, rfl, _, _, rfl, rfl, hm0, ?_⟩⟩
        exact k _ _ (Int.emod_nonneg _ (by omega)) (Int.emod_lt_of_pos _ hm0) kh1 ⟨cells, _, _, _, upd_same, by rw [upd_ne nch]; exact e2, nch, hi, hlen⟩
      · refine ⟨_, rfl, _, _, _, _, rfl, rfl, .inl (.inl e1), rfl, _, _, rfl, rfl, .inl ⟨_, rfl, _, _, rfl, rfl, (by show (0 : Int) < _; decide), _, rfl, h, _, _, 3, rfl, rfl, e1, rfl, ?_⟩⟩
        refine ⟨_, rfl, _, _, _, _, rfl, rfl, .inl (.inl upd_same), rfl, _, rfl, _, _, _, _, rfl, rfl, .inl (.inl upd_same), rfl, ?_⟩
        refine ⟨_, _, rfl, fun n => .inl ⟨_, rfl, _, rfl, _, _, rfl, rfl, hm0, ?_⟩⟩
        exact k _ _ (Int.emod_nonneg _ (by omega)) (Int.emod_lt_of_pos _ hm0) kh1 ⟨cells, _, _, _, upd_same, by rw [upd_ne nch]; exact e2, nch, hi, hlen⟩
end
end K11

namespace K11
open PySem L2 Cm
section
variable {P : Program} {w : World} {K : PySem.W.Frag} {mg : Str → Option Value} {base : Heap}
abbrev s_l_pick : Stmt := top 13
abbrev N_l_pick : List Str := ["_law_hand_here", "_law_things_here"]
theorem sc_l_pick : FnScope N_l_pick ["_law_hand_here", "_law_things_here"] (defScope s_l_pick) := ⟨rfl, rfl, rfl, by decide +kernel, rfl, by decide +kernel, by decide +kernel⟩
theorem ok_pick (T : Txt mg) (c_l_draw : Cl P w K mg base 2 "_law_draw" spDraw) (D : At K mg "_law_pick" s_l_pick ["_law_hand_here", "_law_things_here"]) : Cl P w K mg base 3 "_law_pick" (spPick K) := by
  refine cl_of D sc_l_pick (fun vs H Q E h => ?_) fun f cdv A outer s H vs Q E hr h => ?_
  · obtain ⟨h, c, a, xs, rfl, _⟩ := h
    rfl
  · obtain ⟨h, c, a, xs, rfl, hh, hx, hne, hlen, k⟩ := h
    have hpos : 0 < xs.length := List.length_pos_iff.mpr hne
    refine ⟨_, (pss_one (ps_ret (pe_ix ix_seq (pv 1) (pe_c c_l_draw hr (by decide) (by rfl) (pa_cons (pv 0) (pa_cons (pe_callB call_len_seq (by rfl) T.len (by decide +kernel) (pa_cons (pv 1) pa_nil)) pa_nil))) (fun _ _ => rfl)))), ?_⟩
    refine ⟨_, rfl, _, rfl, _, rfl, a, xs, rfl, ?_, h, c, _, rfl, hh, by omega, Int.lt_of_le_of_lt (show (xs.length : Int) ≤ 1000 by omega) (by decide), fun n H1 h0 h1 kh hh1 => ?_⟩
    · rcases hx with hx | hx
      · exact .inl hx.1
      · exact .inr hx
    · obtain ⟨j, rfl⟩ : ∃ j : Nat, n = (j : Int) := ⟨n.toNat, by omega⟩
      have hj : j < xs.length := by omega
      have hat : atI xs (j : Int) = some xs[j] := atI_nat (List.getElem?_eq_getElem hj)
      rcases hx with ⟨hx, hn⟩ | hx
      · refine .inl ⟨a, xs, _, _, rfl, rfl, ?_, hat, k _ _ (List.getElem_mem hj) kh hh1⟩
        rcases hx with (q | ⟨o, q⟩) | q
        · exact .inl (.inl (kh.st _ _ hn q))
        · exact .inl (.inr ⟨o, kh.st _ _ hn q⟩)
        · exact .inr q
      · exact .inr (.inl ⟨a, xs, _, _, rfl, rfl, kh.tup hx, hat, k _ _ (List.getElem_mem hj) kh hh1⟩)
end
end K11

namespace K11
open PySem L2 Cm
def spThings (K : PySem.W.Frag) : Sp := fun vs H Q _ => ∃ (h c : Addr) (m : Int), vs = [.ref h, .int m] ∧ Hand H h c ∧ 1 ≤ m ∧ m ≤ 14 ∧
  ∀ (d : Addr) (es : List (Int × PyData)) (kvs : List (Key × V)) (H' : Hp), Kh h H H' → Hand H' h c → H d = Option.none → ThAt K H' d es kvs → es.map (·.1) = births m.toNat → Q (.ref d) H'
theorem th_wind {b : Int} (h0 : 0 ≤ b) (h1 : b ≤ 100) : Th b (.tuple [.str "wind", .int (1000 + b), .int (2000 + b)]) :=
  ⟨⟨_, _, rfl⟩, rfl, by
    have e1 : (1000 + b).natAbs < 10 ^ 12 := by omega
    have e2 : (2000 + b).natAbs < 10 ^ 12 := by omega
    have e3 : okD (.str "wind") = true := by decide +kernel
    simp only [okD, okDs] at e3 ⊢
    rw [e3, decide_eq_true e1, decide_eq_true e2]
    rfl, by simp [PyData.depth, PyData.depthAll], by
    have e1 := wt_int (show (1000 + b).natAbs < 10 ^ 12 by omega)
    have e2 := wt_int (show (2000 + b).natAbs < 10 ^ 12 by omega)
    have e3 : PyData.weight (.str "wind") ≤ 100 := by decide +kernel
    simp only [PyData.weight, PyData.weightAll] at e1 e2 e3 ⊢
    omega, fun _ => rfl⟩
theorem th_wait {b n : Int} (h0 : 0 ≤ b) (h1 : b ≤ 100) (n0 : 0 ≤ n) (n1 : n < 9) : Th b (.tuple [.str "wait", .int n, .tuple [.int b]]) :=
  ⟨⟨_, _, rfl⟩, rfl, by
    have e1 : b.natAbs < 10 ^ 12 := by omega
    have e2 : n.natAbs < 10 ^ 12 := by omega
    have e3 : okD (.str "wait") = true := by decide +kernel
    simp only [okD, okDs] at e3 ⊢
    rw [e3, decide_eq_true e1, decide_eq_true e2]
    rfl, by simp [PyData.depth, PyData.depthAll], by
    have e1 := wt_int (show b.natAbs < 10 ^ 12 by omega)
    have e2 := wt_int (show n.natAbs < 10 ^ 12 by omega)
    have e3 : PyData.weight (.str "wait") ≤ 100 := by decide +kernel
    simp only [PyData.weight, PyData.weightAll] at e1 e2 e3 ⊢
    omega, fun h => absurd (show ("wait" : Str) = "wind" from h) (by decide +kernel)⟩
theorem th_mark {b : Int} : Th b (.tuple [.str "mark"]) := ⟨⟨_, _, rfl⟩, rfl, by decide +kernel, by decide +kernel, by decide +kernel, fun h => absurd (show ("mark" : Str) = "wind" from h) (by decide +kernel)⟩
theorem th_pass {b : Int} : Th b (.tuple [.str "pass", .int 77]) := ⟨⟨_, _, rfl⟩, rfl, by decide +kernel, by decide +kernel, by decide +kernel, fun h => absurd (show ("pass" : Str) = "wind" from h) (by decide +kernel)⟩
theorem th_way {b : Int} : Th b (.tuple [.str "way", .tuple [.str "out"], .tuple [.str "give", .int 3]]) := ⟨⟨_, _, rfl⟩, rfl, by decide +kernel, by decide +kernel, by decide +kernel, fun h => absurd (show ("way" : Str) = "wind" from h) (by decide +kernel)⟩
section
variable {P : Program} {w : World} {K : PySem.W.Frag} {mg : Str → Option Value} {base : Heap}
abbrev s_l_things : Stmt := top 14
abbrev N_l_things : List Str := ["_law_hand_here", "_law_many", "_law_things_here", "_law_birth", "_law_pick_here"]
theorem sc_l_things : FnScope N_l_things ["_law_hand_here", "_law_many"] (defScope s_l_things) := ⟨rfl, rfl, rfl, by decide +kernel, rfl, by decide +kernel, by decide +kernel⟩
theorem ok_things (T : Txt mg) (c_l_draw : Cl P w K mg base 2 "_law_draw" spDraw) (c_l_pick : Cl P w K mg base 3 "_law_pick" (spPick K)) (D : At K mg "_law_things" s_l_things ["_law_hand_here", "_law_many"]) :
    Cl P w K mg base 4 "_law_things" (spThings K) := by
  refine cl_of D sc_l_things (fun vs H Q E h => ?_) fun f cdv A outer s H vs Q E hr h => ?_
  · obtain ⟨h, c, m, rfl, _⟩ := h
    rfl
  · obtain ⟨h, c, m, rfl, hh, hm1, hm2, k⟩ := h
    have hu := hu_of hr
    refine ⟨_, (pss_cons (ps_set (i := 2) sc_l_things.nd rfl (Or.inl rfl) pe_dnewK)
      (pss_cons (ps_for PassesOwn.never rfl (pi_range2 (by rfl) T.range (pa_cons pe_int (pa_cons (pe_op op_add pe_int (pv 1)) pa_nil))) (pg_name (i := 3) sc_l_things.nd rfl (Or.inl rfl))
        (pss_cons (ps_set (i := 4) sc_l_things.nd rfl (Or.inl rfl) (pe_c c_l_draw hr (by decide) (by rfl) (pa_cons (pv 0) (pa_cons pe_int pa_nil))))
        (pss_one (ps_if (pt_cmpR op_lt (pv 4) pe_int (nomark _))
          (pss_one (ps_dput hu (pv 2) (pv 3) (pe_tup (pa_cons pe_str (pa_cons (pe_op op_add pe_int (pv 3)) (pa_cons (pe_op op_add pe_int (pv 3)) pa_nil)))) rfl))
          (pss_one (ps_if (pt_cmpR op_lt (pv 4) pe_int (nomark _))
            (pss_one (ps_dput hu (pv 2) (pv 3) (pe_tup (pa_cons pe_str (pa_cons (pe_c c_l_draw hr (by decide) (by rfl) (pa_cons (pv 0) (pa_cons pe_int pa_nil))) (pa_cons (pe_tup (pa_cons (pv 3) pa_nil)) pa_nil)))) rfl))
            (pss_one (ps_if (pt_cmpR op_eq (pv 4) pe_int (nomark _))
              (pss_one (ps_dput hu (pv 2) (pv 3) (pe_tup (pa_cons pe_str pa_nil)) rfl))
              (pss_one (ps_dput hu (pv 2) (pv 3) (pe_c c_l_pick hr (by decide) (by rfl) (pa_cons (pv 0) (pa_cons (pe_lst (pa_cons (pe_tup (pa_cons pe_str (pa_cons pe_int pa_nil))) (pa_cons (pe_tup (pa_cons pe_str (pa_cons (pe_tup (pa_cons pe_str pa_nil)) (pa_cons (pe_tup (pa_cons pe_str (pa_cons pe_int pa_nil))) pa_nil)))) (pa_cons (pe_tup (pa_cons pe_str pa_nil)) pa_nil)))) pa_nil))) rfl))))))))))
      (pss_one (ps_ret (pv 2))))), ?_⟩
    intro d hd
    have hh0 : Hand (upd H d (.dK [])) h c := hh.same (same_new hd)
    refine ⟨_, rfl, _, _, rfl, rfl, 1, _, rfl, ⟨by omega, by omega, by omega, by omega⟩, ?_⟩
    have en : (1 + m - 1).toNat = m.toNat := by omega
    rw [en]
    refine for_it (walk_range (lo := 1) (n := m.toNat)) (fun i σ H' => ∃ (v3 v4 : Option V) (es : List (Int × PyData)) (kvs : List (Key × V)), σ = [some (.ref h), some (.int m), some (.ref d), v3, v4] ∧ Kh h H H' ∧ Hand H' h c ∧ ThAt K H' d es kvs ∧ es.map (·.1) = births i)
      ⟨none, none, [], [], rfl, hh.kh (same_new hd), hh0, ⟨upd_same, rfl, .nil, fun e he => by cases he⟩, rfl⟩ (fun _ _ _ _ _ => trivial) ?_ ?_
    · rintro i x σ H0 H1 hi ⟨v3, v4, es, kvs, rfl, kh, hh1, ht, hk⟩ ⟨rfl, rfl⟩
      have hi14 : i < 14 := by omega
      have nokey : ∀ {p : Addr}, H1 p = Option.none → p ≠ d := fun hp => (ne_of_none ht.at_ hp).symm
      refine ⟨_, rfl, h, c, _, rfl, hh1, by decide, by decide, fun n H2 n0 n1 kh2 hh2 => ?_⟩
      have kd : ∀ {H' : Hp}, Hand H' h c → (∃ kvs, H' d = some (.dK kvs)) → ¬ d = h := fun x ⟨_, e⟩ => x.ne fun xs z => by rw [e] at z; cases z
      have ndh : ¬ d = h := kd hh1 ⟨_, ht.at_⟩
      have ht2 := ht.kp kh2 ndh
      have kh12 := kh.trans kh2
      refine ⟨_, rfl, _, _, rfl, rfl, _, rfl, ?_⟩
      refine ite2 (fun _ => ?_) (fun _ => ?_)
      · refine ⟨_, rfl, _, _, rfl, rfl, _, rfl, _, _, rfl, rfl, by show 3 ≤ sizeLine; decide, fun p hp => ?_⟩
        obtain ⟨H4, es', kvs', g1, g2, g3, g4, g5⟩ := things_put (t := .tuple [.str "wind", .int (1000 + (1 + i)), .int (2000 + (1 + i))]) (v := .ref p) (kh12.trans (hh2.kh (same_new hp))) (hh2.same (same_new hp)) (ht2.same (same_new hp)) hd hk (by omega)
          (.tup (.inl (.inl upd_same)) (.cons (.str _) (.cons (.int _) (.cons (.int _) .nil)))) (th_wind (by omega) (by omega))
        exact ⟨_, rfl, _, rfl, d, H4, rfl, g1, _, _, es', kvs', rfl, g2, g3, g4, g5⟩
      · refine ⟨_, rfl, _, _, rfl, rfl, _, rfl, ?_⟩
        refine ite2 (fun _ => ?_) (fun _ => ?_)
        · refine ⟨_, rfl, h, c, _, rfl, hh2, by decide, by decide, fun n3 H3 n30 n31 kh3 hh3 => ?_⟩
          refine ⟨_, rfl, by show 1 ≤ sizeLine; decide, fun p1 hp1 => ⟨by show 3 ≤ sizeLine; decide, fun p hp => ?_⟩⟩
          have s3 : Same H3 (upd (upd H3 p1 (.tup [.int (1 + (i : Int))])) p (.tup [.str "wait", .int n3, .ref p1])) := (same_new hp1).trans (same_new hp)
          obtain ⟨H4, es', kvs', g1, g2, g3, g4, g5⟩ := things_put (t := .tuple [.str "wait", .int n3, .tuple [.int (1 + i)]]) (v := .ref p) ((kh12.trans kh3).trans (hh3.kh s3)) (hh3.same s3) ((ht2.kp kh3 ndh).same s3) hd hk (by omega)
            (.tup (.inl (.inl upd_same)) (.cons (.str _) (.cons (.int _) (.cons (.tup (.inl (.inl (by rw [upd_ne (ne_of_none upd_same hp)]; exact upd_same))) (.cons (.int _) .nil)) .nil)))) (th_wait (by omega) (by omega) n30 n31)
          exact ⟨_, rfl, _, rfl, d, H4, rfl, g1, _, _, es', kvs', rfl, g2, g3, g4, g5⟩
        · refine ⟨_, rfl, rfl, _, rfl, ?_⟩
          refine ite2 (fun _ => ?_) (fun _ => ?_)
          · refine ⟨by show 1 ≤ sizeLine; decide, fun p hp => ?_⟩
            obtain ⟨H4, es', kvs', g1, g2, g3, g4, g5⟩ := things_put (t := .tuple [.str "mark"]) (v := .ref p) (kh12.trans (hh2.kh (same_new hp))) (hh2.same (same_new hp)) (ht2.same (same_new hp)) hd hk (by omega)
              (.tup (.inl (.inl upd_same)) (.cons (.str _) .nil)) th_mark
            exact ⟨_, rfl, _, rfl, d, H4, rfl, g1, _, _, es', kvs', rfl, g2, g3, g4, g5⟩
          · refine ⟨_, rfl, by show 2 ≤ sizeLine; decide, fun p1 hp1 => ⟨by show 1 ≤ sizeLine; decide, fun p2 hp2 => ⟨by show 2 ≤ sizeLine; decide, fun p3 hp3 => ⟨by show 3 ≤ sizeLine; decide, fun p4 hp4 => ⟨by show 1 ≤ sizeLine; decide, fun p5 hp5 => ⟨by show 3 ≤ sizeLine; decide, fun l hl => ?_⟩⟩⟩⟩⟩⟩
            have t1 := same_new (o := .tup [.str "pass", .int 77]) hp1
            have t2 := same_new (o := .tup [.str "out"]) hp2
            have t3 := same_new (o := .tup [.str "give", .int 3]) hp3
            have t4 := same_new (o := .tup [.str "way", .ref p2, .ref p3]) hp4
            have t5 := same_new (o := .tup [.str "mark"]) hp5
            have t6 := same_new (o := .lst [.ref p1, .ref p4, .ref p5]) hl
            have s6 := t1.trans (t2.trans (t3.trans (t4.trans (t5.trans t6))))
            have hhL := hh2.same s6
            have nlh : l ≠ h := fun q => by
              obtain ⟨xs, e⟩ := hh2.lst
              have e2 := (t1.trans (t2.trans (t3.trans (t4.trans t5)))) _ _ e
              rw [← q, hl] at e2
              cases e2
            have d1 : Dp K _ (.ref p1) (.tuple [.str "pass", .int 77]) := .tup (.inl (.inl ((t2.trans (t3.trans (t4.trans (t5.trans t6)))) _ _ upd_same))) (.cons (.str _) (.cons (.int _) .nil))
            have d4 : Dp K _ (.ref p4) (.tuple [.str "way", .tuple [.str "out"], .tuple [.str "give", .int 3]]) :=
              .tup (.inl (.inl ((t5.trans t6) _ _ upd_same))) (.cons (.str _) (.cons (.tup (.inl (.inl ((t3.trans (t4.trans (t5.trans t6))) _ _ upd_same))) (.cons (.str _) .nil))
                (.cons (.tup (.inl (.inl ((t4.trans (t5.trans t6)) _ _ upd_same))) (.cons (.str _) (.cons (.int _) .nil))) .nil)))
            have d5 : Dp K _ (.ref p5) (.tuple [.str "mark"]) := .tup (.inl (.inl (t6 _ _ upd_same))) (.cons (.str _) .nil)
            refine ⟨h, c, l, _, rfl, hhL, .inl ⟨.inl (.inl upd_same), nlh⟩, by simp, by show 3 ≤ 1000; decide, fun v H3 hv kh3 hh3 => ?_⟩
            have kall := (kh12.trans (hh2.kh s6)).trans kh3
            have ht3 := (ht2.same s6).kp kh3 ndh
            have out : ∀ t : PyData, Dp K H3 v t → Th (1 + i) t → _ := fun t hv ht => things_put (h := h) kall hh3 ht3 hd hk (by omega) hv ht
            have any : ∃ t, Dp K H3 v t ∧ Th (1 + i) t := by
              rcases List.mem_cons.mp hv with rfl | hv
              · exact ⟨_, dp_keep (fun _ _ q => kh3.tup q) _ _ rfl d1, th_pass⟩
              · rcases List.mem_cons.mp hv with rfl | hv
                · exact ⟨_, dp_keep (fun _ _ q => kh3.tup q) _ _ rfl d4, th_way⟩
                · cases List.mem_singleton.mp hv
                  exact ⟨_, dp_keep (fun _ _ q => kh3.tup q) _ _ rfl d5, th_mark⟩
            obtain ⟨t, g, g0⟩ := any
            obtain ⟨H4, es', kvs', g1, g2, g3, g4, g5⟩ := out t g g0
            exact ⟨_, rfl, _, rfl, d, H4, rfl, g1, _, _, es', kvs', rfl, g2, g3, g4, g5⟩
    · rintro σ H1 ⟨v3, v4, es, kvs, rfl, kh, hh1, ht, hk⟩
      exact ⟨_, rfl, k d es kvs _ kh hh1 hd ht hk⟩
end
end K11

namespace K11
open PySem L2 Cm
/-- a row of at most most births out of 1 .. n -/
def spRow (K : PySem.W.Frag) : Sp := fun vs H Q _ => ∃ (h c d : Addr) (most : Int) (es : List (Int × PyData)) (kvs : List (Key × V)) (n : Nat), vs = [.ref h, .ref d, .int most] ∧ Hand H h c ∧ ThAt K H d es kvs ∧ es.map (·.1) = births n ∧ 1 ≤ n ∧ n ≤ 60 ∧
  0 ≤ most ∧ most ≤ 60 ∧ ∀ (t : Addr) (fs : List Int) (H' : Hp), Kh h H H' → Hand H' h c → SqT K H' t (fs.map V.int) → (fs.length : Int) ≤ most → (∀ b ∈ fs, b ∈ births n) → Q (.ref t) H'
theorem all_ints {K : PySem.W.Frag} {H : Hp} {P : Int → Prop} : ∀ {acc : List V} {ds : List PyData}, DpAll K H acc ds → (∀ d ∈ ds, ∃ b : Int, d = .int b ∧ P b) → ∃ fs : List Int, acc = fs.map V.int ∧ ds = fs.map PyData.int ∧ ∀ b ∈ fs, P b
  | _, _, .nil, _ => ⟨[], rfl, rfl, by simp⟩
  | _, _, .cons h t, g => by
    obtain ⟨b, rfl, hb⟩ := g _ List.mem_cons_self
    obtain ⟨fs, rfl, rfl, hf⟩ := all_ints t fun d hd => g d (List.mem_cons_of_mem _ hd)
    cases h
    exact ⟨b :: fs, rfl, rfl, fun x hx => by
      rcases List.mem_cons.mp hx with rfl | hx
      · exact hb
      · exact hf x hx⟩
section
variable {P : Program} {w : World} {K : PySem.W.Frag} {mg : Str → Option Value} {base : Heap}
abbrev s_l_row : Stmt := top 15
abbrev N_l_row : List Str := ["_law_hand_here", "_law_things_here", "_law_most", "_law_births", "_law_k"]
theorem sc_l_row : FnScope N_l_row ["_law_hand_here", "_law_things_here", "_law_most"] (defScope s_l_row) := ⟨rfl, rfl, rfl, by decide +kernel, rfl, by decide +kernel, by decide +kernel⟩
theorem ok_row (T : Txt mg) (c_l_draw : Cl P w K mg base 2 "_law_draw" spDraw) (c_l_pick : Cl P w K mg base 3 "_law_pick" (spPick K)) (D : At K mg "_law_row" s_l_row ["_law_hand_here", "_law_things_here", "_law_most"]) :
    Cl P w K mg base 4 "_law_row" (spRow K) := by
  refine cl_of D sc_l_row (fun vs H Q E h => ?_) fun f cdv A outer s H vs Q E hr h => ?_
  · obtain ⟨h, c, d, most, es, kvs, n, rfl, _⟩ := h
    rfl
  · obtain ⟨h, c, d, most, es, kvs, n, rfl, hh, ht, hk, hn1, hn2, hm0, hm1, k⟩ := h
    refine ⟨_, (pss_cons (ps_set (i := 3) sc_l_row.nd rfl (Or.inr rfl) (pe_callB (call_sortedK rfl) (by rfl) T.sorted (by decide +kernel) (pa_cons (pe_keys (pv 1)) pa_nil)))
      (pss_one (ps_ret (pe_tupleOf (by rfl) T.tuple (pe_lc (own := [("_law_k", 4)]) rfl sc_l_row.nd (pi_range1 (by rfl) T.range (pa_cons (pe_c c_l_draw hr (by decide) (by rfl) (pa_cons (pv 0) (pa_cons (pe_op op_add (pv 2) pe_int) pa_nil))) pa_nil)) (blkOk_by (N := N_l_row) (sc := defScope s_l_row) (by decide +kernel))
      (fun _ _ _ _ _ => (pg_name (i := 4) sc_l_row.nd rfl (Or.inl rfl)))
      (fun _ _ _ _ _ => pts_nil)
      (fun _ _ _ _ _ => (pe_c c_l_pick hr (by decide) (by rfl) (pa_cons (pv 0) (pa_cons (pv 3) pa_nil))))))))), ?_⟩
    refine ⟨_, rfl, d, rfl, ⟨_, ht.at_⟩, fun r hr0 => ⟨r, d, kvs, births n, rfl, upd_same, by rw [upd_ne (ne_of_none ht.at_ hr0)]; exact ht.at_, ?_, by rw [births_len]; omega, fun ys p perm _ hp => ?_⟩⟩
    · rw [ht.ks, ← hk, List.map_map]
      rfl
    · have s1 : Same H (upd (upd H r (ViewO r d)) p (.lst (ys.map V.int))) := (same_new hr0).trans (same_new hp)
      have hh1 := hh.same s1
      have hys : ∀ b ∈ ys, b ∈ births n := fun b hb => perm.mem_iff.mp hb
      have hlen : ys.length = n := by rw [perm.length_eq, births_len]
      have hph := hh1.ne (d := p)
      refine ⟨_, rfl, _, rfl, _, _, rfl, rfl, ?_⟩
      refine ⟨h, c, _, rfl, hh1, by omega, Int.lt_of_le_of_lt (show most + 1 ≤ 61 by omega) (by decide), fun m H2 m0 m1 kh2 hh2 => ?_⟩
      have pnh : p ≠ h := fun q => by
        obtain ⟨xs, e⟩ := hh.lst
        have e2 := (same_new (o := ViewO r d) hr0) _ _ e
        rw [← q, hp] at e2
        cases e2
      have hp2 : H2 p = some (.lst (ys.map V.int)) := kh2.st _ _ pnh upd_same
      refine ⟨_, rfl, by omega, by omega, fun D hD => ?_⟩
      have dn := hh2.there hD
      refine lc_draw (K := K) (M := fun a => a = h) (walk_range (lo := 0) (n := m.toNat)) (fun H => Hand H h c ∧ H p = some (.lst (ys.map V.int))) (fun x => ∃ b : Int, x = .int b ∧ b ∈ births n) (fun a ha => by rw [ha]; exact hh2.lst)
        ⟨hh2.same (same_new hD), (same_new hD) _ _ hp2⟩ (fun H ys' kH q => ⟨q.1.puts dn.1 dn.2, by rw [upd_ne (ne_of_none hp2 hD)]; exact q.2⟩) hD (by omega) (fun _ _ _ => trivial) (fun x ⟨b, e, _⟩ => by rw [e]; rfl) ?_ ?_
      · rintro i x H0 H3 hi k3 ⟨hh3, hp3⟩ ⟨rfl, rfl⟩ Q1 Q0 q1 q0
        refine ⟨rfl, ?_⟩
        refine ⟨_, rfl, _, rfl, h, c, p, _, rfl, hh3, .inl ⟨.inl (.inl hp3), pnh⟩, ?_, by rw [List.length_map]; omega, fun v H4 hv k4 hh4 => ?_⟩
        · intro e
          have := congrArg List.length e
          rw [List.length_map] at this
          simp at this
          rw [this] at hlen
          simp at hlen
          omega
        · obtain ⟨b, hb, rfl⟩ := List.mem_map.mp hv
          exact q1 _ _ (.int b) ⟨b, rfl, hys b hb⟩ k4 ⟨hh4, k4.st _ _ pnh hp3⟩ (.int b)
      · rintro H3 acc ds k3 ⟨hh3, hp3⟩ hacc ha hg hl
        obtain ⟨fs, rfl, rfl, hf⟩ := all_ints ha hg
        refine .inl ⟨D, _, rfl, .inl (.inl hacc), fun t htt => ?_⟩
        have kall := ((hh.kh s1).trans kh2).trans k3
        refine k t fs _ (kall.trans (hh3.kh (same_new htt))) (hh3.same (same_new htt)) (.inl (.inl upd_same)) ?_ hf
        rw [List.length_map] at hl
        omega
end
end K11

namespace K11
open PySem L2 Cm
abbrev Things := List (Int × PyData)
def windR (es : Things) (fs : List Int) (i : Nat) : Option (Int × Int) := (fs[i]?).bind fun b => if word es b = "wind" then some ((i : Int), b) else none
def winds (es : Things) (fs : List Int) : List (Int × Int) := (List.range fs.length).filterMap (windR es fs)
def encP (p : Int × Int) : PyData := .tuple [.int p.1, .int p.2]
theorem winds_enc (es : Things) (fs : List Int) : (List.range fs.length).filterMap (fun i => (windR es fs i).map encP) = (winds es fs).map encP := by
  unfold winds
  rw [List.map_filterMap]
structure Fr (K : PySem.W.Frag) (H : Hp) (a d : Addr) (fs : List Int) (es : Things) (kvs : List (Key × V)) : Prop where
  fr : SqT K H a (fs.map V.int)
  th : ThAt K H d es kvs
  ins : ∀ b ∈ fs, b ∈ es.map (·.1)
  len : fs.length ≤ 25000
theorem Fr.same {K : PySem.W.Frag} {H H' : Hp} {a d : Addr} {fs : List Int} {es : Things} {kvs : List (Key × V)} (x : Fr K H a d fs es kvs) (s : Same H H') : Fr K H' a d fs es kvs :=
  ⟨sqt_same s x.fr, x.th.same s, x.ins, x.len⟩
def spWindsT (K : PySem.W.Frag) : Sp := fun vs H Q _ => ∃ (a d : Addr) (fs : List Int) (es : Things) (kvs : List (Key × V)), vs = [.ref a, .ref d] ∧ Fr K H a d fs es kvs ∧
  ∀ (t : Addr) (xs : List V) (H' : Hp), Same H H' → SqT K H' t xs → DpAll K H' xs ((winds es fs).map encP) → Q (.ref t) H'
def spWindsL (K : PySem.W.Frag) : Sp := fun vs H Q _ => ∃ (a d : Addr) (fs : List Int) (es : Things) (kvs : List (Key × V)), vs = [.ref a, .ref d] ∧ Fr K H a d fs es kvs ∧
  ∀ (t : Addr) (xs : List V) (H' : Hp), Same H H' → H t = Option.none → H' t = some (.lst xs) → DpAll K H' xs ((winds es fs).map encP) → Q (.ref t) H'
section
variable {P : Program} {w : World} {K : PySem.W.Frag} {mg : Str → Option Value} {base : Heap}
abbrev s_p_winds_of : Stmt := top 1
abbrev N_p_winds_of : List Str := ["frames", "things", "position", "birth"]
theorem sc_p_winds_of : FnScope N_p_winds_of ["frames", "things"] (defScope s_p_winds_of) := ⟨rfl, rfl, rfl, by decide +kernel, rfl, by decide +kernel, by decide +kernel⟩
theorem ok_pwinds (T : Txt mg) (D : At K mg "winds_of" s_p_winds_of ["frames", "things"]) : Cl P w K mg base 1 "winds_of" (spWindsT K) := by
  refine cl_of D sc_p_winds_of (fun vs H Q E h => ?_) fun f cdv A outer s H vs Q E hr h => ?_
  · obtain ⟨a, d, fs, es, kvs, rfl, _⟩ := h
    rfl
  · obtain ⟨a, d, fs, es, kvs, rfl, x, k⟩ := h
    have hu := hu_of hr
    refine ⟨_, (pss_one (ps_ret (pe_tupleOf (by rfl) T.tuple (pe_lc (own := [("position", 2), ("birth", 3)]) (g := gTup K 2 (gCons (gName 2) (gCons (gName 3) gNil))) rfl sc_p_winds_of.nd (pi_enumT (by rfl) T.enumerate (pa_cons (pv 0) pa_nil)) (blkOk_by (N := N_p_winds_of) (sc := defScope s_p_winds_of) (by decide +kernel))
      (fun _ _ _ _ _ => pg_tup rfl (pgs_cons (pg_name (i := 2) sc_p_winds_of.nd rfl (Or.inl rfl)) (pgs_cons (pg_name (i := 3) sc_p_winds_of.nd rfl (Or.inl rfl)) pgs_nil)))
      (fun _ _ _ _ _ => (pts_one (pt_cmpR op_eq (pe_ix (kx_tup (K := K)) (pe_dget hu (pv 1) (pv 3) (fun _ _ => rfl)) pe_int (fun _ _ => rfl)) pe_str (nomark _))))
      (fun _ _ _ _ _ => (pe_tup (pa_cons (pv 2) (pa_cons (pv 3) pa_nil)))))))), ?_⟩
    refine ⟨_, rfl, a, _, rfl, x.fr, fun L hL => ?_⟩
    have hlen : (fs.map V.int).length = fs.length := List.length_map ..
    refine lc_data (K := K) (walk_enumT (xs := fs.map V.int)) (fun i => (windR es fs i).map encP) hL (by have := x.len; omega) (fun H' s1 => sqt_same s1 x.fr) (fun i _ z e => ?_) ?_ ?_
    · obtain ⟨q, _, rfl⟩ := Option.map_eq_some_iff.mp e
      rfl
    · rintro i v H1 H2 hi s1 ⟨T1, x1, x2, rfl, hT, rfl, e1, e2⟩ Q1 Q0 q1 q0
      cases e1
      obtain ⟨b, eb, rfl⟩ := map_at e2
      have s2 := s1.trans (same_new (o := .tup [.int (i : Nat), .int b]) hT)
      obtain ⟨p, its, g1, g2, g3, _⟩ := (x.th.same s2).get (x.ins b (List.mem_of_getElem? eb))
      refine ⟨T1, _, rfl, .inl (.inl upd_same), rfl, _, _, rfl, _, _, rfl, rfl, rfl, ?_⟩
      refine ⟨_, rfl, _, rfl, d, _, rfl, g1, p, its, _, _, rfl, rfl, g2, g3, rfl, _, rfl, ?_⟩
      rw [decS]
      by_cases hw : word es b = "wind"
      · rw [decide_eq_true hw]
        refine iteT ⟨_, rfl, _, rfl, by show 2 ≤ sizeLine; decide, fun q hq => ?_⟩
        refine q1 _ _ (encP ((i : Int), b)) ?_ ((same_new hT).trans (same_new hq)) (.tup (.inl (.inl upd_same)) (.cons (.int _) (.cons (.int _) .nil)))
        unfold windR
        rw [eb]
        show Option.map encP (if word es b = "wind" then some ((i : Int), b) else none) = _
        rw [if_pos hw]
        rfl
      · rw [decide_eq_false hw]
        refine iteF (q0 _ ?_ (same_new hT))
        unfold windR
        rw [eb]
        show Option.map encP (if word es b = "wind" then some ((i : Int), b) else none) = _
        rw [if_neg hw]
        rfl
    · intro H1 acc s1 hacc ha
      rw [hlen, winds_enc] at ha
      refine .inl ⟨L, _, rfl, .inl (.inl hacc), fun t ht => ?_⟩
      exact k t acc _ (s1.trans (same_new ht)) (.inl (.inl upd_same)) (dps_same (same_new ht) _ _ ha)
abbrev s_l_winds_of : Stmt := top 16
abbrev N_l_winds_of : List Str := ["_law_frames", "_law_things_here", "_law_at"]
theorem sc_l_winds_of : FnScope N_l_winds_of ["_law_frames", "_law_things_here"] (defScope s_l_winds_of) := ⟨rfl, rfl, rfl, by decide +kernel, rfl, by decide +kernel, by decide +kernel⟩
theorem ok_lwinds (T : Txt mg) (D : At K mg "_law_winds_of" s_l_winds_of ["_law_frames", "_law_things_here"]) : Cl P w K mg base 1 "_law_winds_of" (spWindsL K) := by
  refine cl_of D sc_l_winds_of (fun vs H Q E h => ?_) fun f cdv A outer s H vs Q E hr h => ?_
  · obtain ⟨a, d, fs, es, kvs, rfl, _⟩ := h
    rfl
  · obtain ⟨a, d, fs, es, kvs, rfl, x, k⟩ := h
    have hu := hu_of hr
    refine ⟨_, (pss_one (ps_ret (pe_lc (own := [("_law_at", 2)]) rfl sc_l_winds_of.nd (pi_range1 (by rfl) T.range (pa_cons (pe_callB call_len_seq (by rfl) T.len (by decide +kernel) (pa_cons (pv 0) pa_nil)) pa_nil)) (blkOk_by (N := N_l_winds_of) (sc := defScope s_l_winds_of) (by decide +kernel))
      (fun _ _ _ _ _ => (pg_name (i := 2) sc_l_winds_of.nd rfl (Or.inl rfl)))
      (fun _ _ _ _ _ => (pts_one (pt_cmpR op_eq (pe_ix (kx_tup (K := K)) (pe_dget hu (pv 1) (pe_ix (kx_tup (K := K)) (pv 0) (pv 2) (fun _ _ => rfl)) (fun _ _ => rfl)) pe_int (fun _ _ => rfl)) pe_str (nomark _))))
      (fun _ _ _ _ _ => (pe_tup (pa_cons (pv 2) (pa_cons (pe_ix (kx_tup (K := K)) (pv 0) (pv 2) (fun _ _ => rfl)) pa_nil))))))), ?_⟩
    have hlen : (fs.map V.int).length = fs.length := List.length_map ..
    have xl := x.len
    refine ⟨_, rfl, a, _, rfl, .inr x.fr, _, rfl, by omega, by omega, fun L hL => ?_⟩
    rw [hlen]
    refine lc_data (K := K) (walk_upto (n := (fs.length : Int).toNat)) (fun i => (windR es fs i).map encP) hL (by omega) (fun _ _ => trivial) (fun i _ z e => ?_) ?_ ?_
    · obtain ⟨q, _, rfl⟩ := Option.map_eq_some_iff.mp e
      rfl
    · rintro i v H0 H1 hi s1 ⟨rfl, rfl⟩ Q1 Q0 q1 q0
      have hi' : i < fs.length := by omega
      have eb : fs[i]? = some fs[i] := List.getElem?_eq_getElem hi'
      have hat : atI (fs.map V.int) ((i : Nat) : Int) = some (.int fs[i]) := by
        exact atI_nat (by rw [List.getElem?_map, eb]; rfl)
      obtain ⟨p, its, g1, g2, g3, _⟩ := (x.th.same s1).get (x.ins _ (List.getElem_mem hi'))
      refine ⟨rfl, ?_⟩
      refine ⟨_, rfl, _, rfl, _, rfl, a, _, _, _, rfl, rfl, sqt_same s1 x.fr, hat, d, _, rfl, g1, p, its, _, _, rfl, rfl, g2, g3, rfl, _, rfl, ?_⟩
      rw [decS]
      by_cases hw : word es fs[i] = "wind"
      · rw [decide_eq_true hw]
        refine iteT ⟨_, rfl, _, rfl, _, rfl, a, _, _, _, rfl, rfl, sqt_same s1 x.fr, hat, by show 2 ≤ sizeLine; decide, fun q hq => ?_⟩
        refine q1 _ _ (encP ((i : Int), fs[i])) ?_ (same_new hq) (.tup (.inl (.inl upd_same)) (.cons (.int _) (.cons (.int _) .nil)))
        unfold windR
        rw [eb]
        show Option.map encP (if word es fs[i] = "wind" then some ((i : Int), fs[i]) else none) = _
        rw [if_pos hw]
        rfl
      · rw [decide_eq_false hw]
        refine iteF (q0 _ ?_ (Same.refl _))
        unfold windR
        rw [eb]
        show Option.map encP (if word es fs[i] = "wind" then some ((i : Int), fs[i]) else none) = _
        rw [if_neg hw]
        rfl
    · intro H1 acc s1 hacc ha
      rw [show (fs.length : Int).toNat = fs.length by omega, winds_enc] at ha
      exact k L acc _ s1 hL hacc ha
end
end K11

namespace K11
open PySem L2 Cm
def common : List (Int × Int) → List (Int × Int) → Nat
  | a :: as, b :: bs => if a.2 = b.2 then common as bs + 1 else 0
  | _, _ => 0
theorem common_is : ∀ (as bs : List (Int × Int)) (i : Nat), (∀ j < i, ∃ a b, as[j]? = some a ∧ bs[j]? = some b ∧ a.2 = b.2) →
    (∀ a b, as[i]? = some a → bs[i]? = some b → a.2 ≠ b.2) → common as bs = i
  | [], bs, i, h, _ => by
    cases i with
    | zero => rfl
    | succ i =>
      obtain ⟨a, b, e, _⟩ := h 0 (by omega)
      simp at e
  | a :: as, [], i, h, _ => by
    cases i with
    | zero => rfl
    | succ i =>
      obtain ⟨a, b, _, e, _⟩ := h 0 (by omega)
      simp at e
  | a :: as, b :: bs, i, h, hn => by
    cases i with
    | zero =>
      have q := hn a b rfl rfl
      unfold common
      rw [if_neg q]
    | succ i =>
      obtain ⟨a', b', e1, e2, e3⟩ := h 0 (by omega)
      simp only [List.getElem?_cons_zero, Option.some.injEq] at e1 e2
      subst e1 e2
      unfold common
      rw [if_pos e3, common_is as bs i (fun j hj => ?_) fun x y e1 e2 => hn x y (by simpa using e1) (by simpa using e2)]
      obtain ⟨x, y, e1, e2, e3⟩ := h (j + 1) (by omega)
      exact ⟨x, y, by simpa using e1, by simpa using e2, e3⟩
theorem common_le : ∀ (as bs : List (Int × Int)), common as bs ≤ as.length ∧ common as bs ≤ bs.length
  | [], _ => by simp [common]
  | _ :: _, [] => by simp [common]
  | a :: as, b :: bs => by
    have := common_le as bs
    unfold common
    split
    · simp only [List.length_cons]
      omega
    · simp
theorem common_comm : ∀ (as bs : List (Int × Int)), common as bs = common bs as
  | [], [] => rfl
  | [], _ :: _ => rfl
  | _ :: _, [] => rfl
  | a :: as, b :: bs => by
    unfold common
    rw [common_comm as bs]
    by_cases h : a.2 = b.2
    · rw [if_pos h, if_pos h.symm]
    · rw [if_neg h, if_neg (fun q => h q.symm)]
theorem dp_enc {K : PySem.W.Frag} {H : Hp} {v : V} {p : Int × Int} (h : Dp K H v (encP p)) : ∃ t, v = .ref t ∧ SqT K H t [.int p.1, .int p.2] := by
  unfold encP at h
  cases h with
  | tup hs ha =>
    cases ha with
    | cons h1 h2 =>
      cases h1
      cases h2 with
      | cons h3 h4 =>
        cases h3
        cases h4
        exact ⟨_, rfl, hs⟩
def spShared (K : PySem.W.Frag) : Sp := fun vs H Q _ => ∃ (a b : Addr) (xs ys : List V) (as bs : List (Int × Int)), vs = [.ref a, .ref b] ∧ SqT K H a xs ∧ DpAll K H xs (as.map encP) ∧ SqT K H b ys ∧ DpAll K H ys (bs.map encP) ∧ as.length ≤ 25000 ∧ bs.length ≤ 25000 ∧
  ∀ H', Same H H' → Q (.int (common as bs : Nat)) H'
section
variable {P : Program} {w : World} {K : PySem.W.Frag} {mg : Str → Option Value} {base : Heap}
abbrev s_p_shared_many : Stmt := top 2
abbrev N_p_shared_many : List Str := ["left", "entered", "many", "one", "other"]
theorem sc_p_shared_many : FnScope N_p_shared_many ["left", "entered"] (defScope s_p_shared_many) := ⟨rfl, rfl, rfl, by decide +kernel, rfl, by decide +kernel, by decide +kernel⟩
theorem ok_shared_many (T : Txt mg) (D : At K mg "_shared_many" s_p_shared_many ["left", "entered"]) : Cl P w K mg base 1 "_shared_many" (spShared K) := by
  refine cl_of D sc_p_shared_many (fun vs H Q E h => ?_) fun f cdv A outer s H vs Q E hr h => ?_
  · obtain ⟨a, b, xs, ys, as, bs, rfl, _⟩ := h
    rfl
  · obtain ⟨a, b, xs, ys, as, bs, rfl, ha, hda, hb, hdb, la, lb, k⟩ := h
    refine ⟨_, (pss_cons (ps_set (i := 2) sc_p_shared_many.nd rfl (Or.inl rfl) pe_int)
      (pss_cons (ps_for PassesOwn.never rfl (RZ.pi_zipA (by rfl) T.zip (pa_cons (pv 0) (pa_cons (pv 1) pa_nil))) (pg_tup (by rfl) (pgs_cons (pg_name (i := 3) sc_p_shared_many.nd rfl (Or.inl rfl)) (pgs_cons (pg_name (i := 4) sc_p_shared_many.nd rfl (Or.inl rfl)) pgs_nil)))
        (pss_cons (ps_if (pt_cmpR op_ne (pe_ix ix_tup (pv 3) pe_int (fun _ _ => rfl)) (pe_ix ix_tup (pv 4) pe_int (fun _ _ => rfl)) (nomark _))
          (pss_one ps_break)
          pss_nil)
        (pss_one (ps_aug (i := 2) sc_p_shared_many.nd rfl (Or.inl rfl) pe_int ip_add))))
      (pss_one (ps_ret (pv 2))))), ?_⟩
    have lx : xs.length = as.length := by have := DpAll.len hda; rwa [List.length_map] at this
    have ly : ys.length = bs.length := by have := DpAll.len hdb; rwa [List.length_map] at this
    refine ⟨_, rfl, _, rfl, a, b, xs, ys, rfl, .inr ⟨ha, hb, ?_⟩⟩
    refine for_it (walk_zipT (xs := xs) (ys := ys) rfl) (fun i σ H' => ∃ v3 v4, σ = [some (.ref a), some (.ref b), some (.int (i : Nat)), v3, v4] ∧ Same H H' ∧ ∀ j < i, ∃ p q, as[j]? = some p ∧ bs[j]? = some q ∧ p.2 = q.2)
      ⟨none, none, rfl, Same.refl H, fun j hj => absurd hj (Nat.not_lt_zero _)⟩ (fun i σ H' _ z => ?_) ?_ ?_
    · obtain ⟨_, _, _, s1, _⟩ := z
      exact ⟨sqt_same s1 ha, sqt_same s1 hb⟩
    · rintro i v σ H1 H2 hi ⟨v3, v4, rfl, s1, hpre⟩ ⟨T1, x1, x2, rfl, hT, rfl, e1, e2⟩
      have s2 := s1.trans (same_new (o := .tup [x1, x2]) hT)
      obtain ⟨d1, g1, g2⟩ := DpAll.atV hda e1
      obtain ⟨p, ep, rfl⟩ := map_at g1
      obtain ⟨d2, g3, g4⟩ := DpAll.atV hdb e2
      obtain ⟨q, eq, rfl⟩ := map_at g3
      obtain ⟨t1, rfl, q1⟩ := dp_enc (dp_same s2 _ _ g2)
      obtain ⟨t2, rfl, q2⟩ := dp_enc (dp_same s2 _ _ g4)
      refine ⟨T1, _, rfl, .inl (.inl upd_same), rfl, _, _, rfl, _, _, rfl, rfl, ?_⟩
      refine ⟨_, rfl, t1, _, _, _, rfl, rfl, q1, rfl, _, rfl, t2, _, _, _, rfl, rfl, q2, rfl, rfl, _, rfl, ?_⟩
      by_cases h : p.2 = q.2
      · rw [show (!decide (V.int p.2 = V.int q.2)) = false by rw [h]; simp]
        refine iteF ⟨_, rfl, _, _, rfl, rfl, _, _, rfl, s2, fun j hj => ?_⟩
        by_cases hj' : j < i
        · exact hpre j hj'
        · have : j = i := by omega
          subst this
          exact ⟨p, q, ep, eq, h⟩
      · rw [show (!decide (V.int p.2 = V.int q.2)) = true by rw [decide_eq_false (fun z => h (V.int.inj z))]; rfl]
        refine iteT ?_
        have e := common_is as bs i hpre fun x y z1 z2 => by
          rw [ep] at z1
          rw [eq] at z2
          cases z1
          cases z2
          exact h
        refine ⟨_, rfl, ?_⟩
        rw [← e]
        exact k _ s2
    · rintro σ H1 ⟨v3, v4, rfl, s1, hpre⟩
      have e := common_is as bs (min xs.length ys.length) hpre fun x y z1 z2 => by
        have h1 := (List.getElem?_eq_some_iff.mp z1).1
        have h2 := (List.getElem?_eq_some_iff.mp z2).1
        omega
      refine ⟨_, rfl, ?_⟩
      rw [← e]
      exact k _ s1
end
end K11

namespace K11
open PySem L2 Cm
theorem cut_from {xs : List V} {k : Nat} (h : k ≤ xs.length) : cutV xs (some (k : Int)) Option.none = xs.drop k := by
  unfold cutV
  rw [HT.sIx_nat, HT.sIx_none, Nat.min_eq_left h]
  exact List.take_of_length_le (by rw [List.length_drop]; omega)
theorem cut_to {xs : List V} {k : Nat} (h : k ≤ xs.length) : cutV xs Option.none (some (k : Int)) = xs.take k := by
  unfold cutV
  rw [HT.sIx_nat, HT.sIx_none, Nat.min_eq_left h, List.drop_zero, Nat.sub_zero]
/-- t[k:] of a tuple: whichever object it is -/
theorem sl_from {K : PySem.W.Frag} {a : Addr} {xs : List V} {k : Nat} {σ : L2.St} {H : Hp} {Q : VK} (hs : SqT K H a xs) (hk : k ≤ xs.length) (h : ∀ t H', Same H H' → SqT K H' t (xs.drop k) → Q (.ref t) H') :
    (tNoPart σ H fun u H1 => rSlA K (.ref a) (some (k : Int)) u H1 Q) := by
  refine ⟨a, xs, rfl, hs, fun q => ?_, fun _ p hp => ?_⟩
  · rw [HT.sIx_nat, Nat.min_eq_left hk] at q
    have : k = 0 := q.1
    subst this
    exact h a H (Same.refl H) hs
  · rw [cut_from hk]
    exact h p _ (same_new hp) (.inl (.inl upd_same))
theorem sl_to {K : PySem.W.Frag} {a : Addr} {xs : List V} {k : Nat} {H : Hp} {Q : VK} (hs : SqT K H a xs) (hk : k ≤ xs.length) (h : ∀ t H', Same H H' → SqT K H' t (xs.take k) → Q (.ref t) H') :
    rSlA K (.ref a) Option.none (some (k : Int)) H Q := by
  refine ⟨a, xs, rfl, hs, fun q => ?_, fun _ p hp => ?_⟩
  · rw [HT.sIx_nat, Nat.min_eq_left hk] at q
    have e : xs.take k = xs := List.take_of_length_le (by rw [q.2]; exact Nat.le_refl _)
    refine h a H (Same.refl H) ?_
    rw [e]
    exact hs
  · rw [cut_to hk]
    exact h p _ (same_new hp) (.inl (.inl upd_same))
abbrev Dd := Str × Int × Int
def encD (p : Dd) : PyData := .tuple [.str p.1, .int p.2.1, .int p.2.2]
def deedsM (l e : List (Int × Int)) : List Dd := ((l.drop (common l e)).reverse.map fun p => (("leave" : Str), p.1, p.2)) ++ (e.drop (common l e)).map fun p => (("enter" : Str), p.1, p.2)
theorem range_at {α β : Type} (xs : List α) (f : α → β) : (List.range xs.length).filterMap (fun i => (xs[i]?).map f) = xs.map f := by
  induction xs with
  | nil => rfl
  | cons a r ih =>
    rw [List.length_cons, List.range_succ_eq_map, List.filterMap_cons]
    simp only [List.getElem?_cons_zero, Option.map_some, List.filterMap_map, List.map_cons]
    refine congrArg _ (Eq.trans (filterMap_eqs _ fun k _ => ?_) ih)
    simp
/-- [(wd, a, b) for a, b in xs] -/
theorem lc_pairs {K : PySem.W.Frag} {J : It} {G : Hp → Prop} {xs : List V} {ps : List (Int × Int)} {wd : Str} {i j : Nat} {own : List Nat} {σ : L2.St} {H1 : Hp} {D : Addr} {Qd : Hp → Prop}
    (wk : Walk J xs.length G (YAt xs)) (hx : DpAll K H1 xs (ps.map encP)) (hn : ps.length ≤ 25000) (hD : H1 D = Option.none) (hG : ∀ H, Same H1 H → G H) (hi : ∀ p : Int × Int, (((wipe σ own).set i (some (.int p.1))).set j (some (.int p.2)))[i]? = some (some (.int p.1)))
    (hj : ∀ p : Int × Int, (((wipe σ own).set i (some (.int p.1))).set j (some (.int p.2)))[j]? = some (some (.int p.2)))
    (hw : ∀ p : Int × Int, wipe (((wipe σ own).set i (some (.int p.1))).set j (some (.int p.2))) own = wipe σ own)
    (hd : ∀ H acc, Same H1 H → H D = some (.lst acc) → DpAll K H acc ((ps.map fun p => (wd, p.1, p.2)).map encD) → Qd H) :
    ∃ W : Nat → Nat → Hp → Prop, (∃ m, W 0 m (upd H1 D (.lst []))) ∧ ∀ m0 m H, W m0 m H →
      (J.stop m0 H ∧ Qd H) ∨ (J.go m0 H ∧ ∃ Nx : Hp → Prop, (∀ H', Nx H' → ∃ m', m' < m ∧ W (m0 + 1) m' H') ∧ ∀ x H', J.yld m0 H x H' → (gTup K 2 (gCons (gName i) (gCons (gName j) gNil))) x (wipe σ own) H' fun σ2 H2 => wipe σ2 own = wipe σ own ∧ tYes σ2 H2 fun b H3 =>
        if b = true then (tTup (tCons (tC (.str wd)) (tCons (tVar i) (tCons (tVar j) tNil)))) σ2 H3 fun y H4 => ∃ acc, H4 D = some (.lst acc) ∧ acc.length < sizeLine ∧ Nx (upd H4 D (.lst (acc ++ [y]))) else Nx H3) := by
  have lx : xs.length = ps.length := by have := DpAll.len hx; rwa [List.length_map] at this
  refine lc_data (K := K) wk (fun m => (ps[m]?).map fun p => encD (wd, p.1, p.2)) hD (by omega) hG (fun m _ z e => ?_) ?_ ?_
  · obtain ⟨q, _, rfl⟩ := Option.map_eq_some_iff.mp e
    rfl
  · rintro m v H0 H2 hm s1 ⟨rfl, e2⟩ Q1 Q0 q1 q0
    obtain ⟨d1, g1, g2⟩ := DpAll.atV hx e2
    obtain ⟨p, ep, rfl⟩ := map_at g1
    obtain ⟨t1, rfl, h1⟩ := dp_enc (dp_same s1 _ _ g2)
    refine ⟨t1, _, rfl, h1, rfl, _, _, rfl, _, _, rfl, rfl, hw p, ?_⟩
    refine iteT (B := Q0 H2) ⟨.int p.1, hi p, .int p.2, hj p, by show 3 ≤ sizeLine; decide, fun q hq => ?_⟩
    exact q1 _ _ (encD (wd, p.1, p.2)) (by rw [ep]; rfl) (same_new hq) (.tup (.inl (.inl upd_same)) (.cons (.str _) (.cons (.int _) (.cons (.int _) .nil))))
  · intro H2 acc s1 hacc ha
    refine hd H2 acc s1 hacc ?_
    rw [lx, range_at] at ha
    rw [List.map_map]
    exact ha
def spDeeds (K : PySem.W.Frag) : Sp := fun vs H Q _ => ∃ (a b d : Addr) (f1 f2 : List Int) (es : Things) (kvs : List (Key × V)), vs = [.ref a, .ref b, .ref d] ∧ Fr K H a d f1 es kvs ∧ Fr K H b d f2 es kvs ∧
  ∀ (t : Addr) (xs : List V) (H' : Hp), Same H H' → SqT K H' t xs → DpAll K H' xs ((deedsM (winds es f1) (winds es f2)).map encD) → Q (.ref t) H'
def spMany (K : PySem.W.Frag) : Sp := fun vs H Q _ => ∃ (a b d : Addr) (f1 f2 : List Int) (es : Things) (kvs : List (Key × V)), vs = [.ref a, .ref b, .ref d] ∧ Fr K H a d f1 es kvs ∧ Fr K H b d f2 es kvs ∧
  ∀ (H' : Hp), Same H H' → Q (.int (common (winds es f1) (winds es f2) : Nat)) H'
theorem winds_len (es : Things) (fs : List Int) : (winds es fs).length ≤ fs.length := by
  unfold winds
  exact Nat.le_trans (List.length_filterMap_le _ _) (by rw [List.length_range]; exact Nat.le_refl _)
section
variable {P : Program} {w : World} {K : PySem.W.Frag} {mg : Str → Option Value} {base : Heap}
abbrev s_p_deeds_of_way : Stmt := top 3
abbrev N_p_deeds_of_way : List Str := ["present", "goal", "things", "left", "entered", "many", "deeds", "position", "birth"]
theorem sc_p_deeds_of_way : FnScope N_p_deeds_of_way ["present", "goal", "things"] (defScope s_p_deeds_of_way) := ⟨rfl, rfl, rfl, by decide +kernel, rfl, by decide +kernel, by decide +kernel⟩
theorem ok_pdeeds (T : Txt mg) (c_p_winds_of : Cl P w K mg base 1 "winds_of" (spWindsT K)) (c_p_shared_many : Cl P w K mg base 1 "_shared_many" (spShared K)) (D : At K mg "deeds_of_way" s_p_deeds_of_way ["present", "goal", "things"]) :
    Cl P w K mg base 2 "deeds_of_way" (spDeeds K) := by
  refine cl_of D sc_p_deeds_of_way (fun vs H Q E h => ?_) fun f cdv A outer s H vs Q E hr h => ?_
  · obtain ⟨a, b, d, f1, f2, es, kvs, rfl, _⟩ := h
    rfl
  · obtain ⟨a, b, d, f1, f2, es, kvs, rfl, x1, x2, k⟩ := h
    refine ⟨_, (pss_cons (ps_set (i := 3) sc_p_deeds_of_way.nd rfl (Or.inl rfl) (pe_c c_p_winds_of hr (by decide) (by rfl) (pa_cons (pv 0) (pa_cons (pv 2) pa_nil))))
      (pss_cons (ps_set (i := 4) sc_p_deeds_of_way.nd rfl (Or.inl rfl) (pe_c c_p_winds_of hr (by decide) (by rfl) (pa_cons (pv 1) (pa_cons (pv 2) pa_nil))))
      (pss_cons (ps_set (i := 5) sc_p_deeds_of_way.nd rfl (Or.inl rfl) (pe_c c_p_shared_many hr (by decide) (by rfl) (pa_cons (pv 3) (pa_cons (pv 4) pa_nil))))
      (pss_cons (ps_setLc (i := 6) (own := [("position", 7), ("birth", 8)]) (g := gTup K 2 (gCons (gName 7) (gCons (gName 8) gNil))) rfl sc_p_deeds_of_way.nd rfl rfl (sw_true rfl rfl rfl (by decide +kernel)) (pi_tup (pe_revT (pe_slice sl_tupA (pv 3) (po_some (pv 5)) po_none))) (blkOk_by (N := N_p_deeds_of_way) (sc := defScope s_p_deeds_of_way) (by decide +kernel))
      (fun _ _ _ _ _ => (pg_tup rfl (pgs_cons (pg_name (i := 7) sc_p_deeds_of_way.nd rfl (Or.inl rfl)) (pgs_cons (pg_name (i := 8) sc_p_deeds_of_way.nd rfl (Or.inl rfl)) pgs_nil))))
      (fun _ _ _ _ _ => pts_nil)
      (fun _ _ _ _ _ => (pe_tup (pa_cons pe_str (pa_cons (pv 7) (pa_cons (pv 8) pa_nil))))))
      (pss_one (ps_ret (pe_tupleOf (by rfl) T.tuple (pe_op op_cat (pv 6) (pe_lc (own := [("position", 7), ("birth", 8)]) (g := gTup K 2 (gCons (gName 7) (gCons (gName 8) gNil))) rfl sc_p_deeds_of_way.nd (pi_tup (pe_slice sl_tupA (pv 4) (po_some (pv 5)) po_none)) (blkOk_by (N := N_p_deeds_of_way) (sc := defScope s_p_deeds_of_way) (by decide +kernel))
      (fun _ _ _ _ _ => (pg_tup rfl (pgs_cons (pg_name (i := 7) sc_p_deeds_of_way.nd rfl (Or.inl rfl)) (pgs_cons (pg_name (i := 8) sc_p_deeds_of_way.nd rfl (Or.inl rfl)) pgs_nil))))
      (fun _ _ _ _ _ => pts_nil)
      (fun _ _ _ _ _ => (pe_tup (pa_cons pe_str (pa_cons (pv 7) (pa_cons (pv 8) pa_nil)))))))))))))), ?_⟩
    refine ⟨_, rfl, _, rfl, a, d, f1, es, kvs, rfl, x1, fun t1 xs1 H1 s1 ht1 hd1 => ?_⟩
    refine ⟨_, rfl, _, rfl, b, d, f2, es, kvs, rfl, x2.same s1, fun t2 xs2 H2 s2 ht2 hd2 => ?_⟩
    have w1 : (winds es f1).length ≤ 25000 := Nat.le_trans (winds_len _ _) x1.len
    have w2 : (winds es f2).length ≤ 25000 := Nat.le_trans (winds_len _ _) x2.len
    have l1 : xs1.length = (winds es f1).length := by have := DpAll.len hd1; rwa [List.length_map] at this
    have l2 : xs2.length = (winds es f2).length := by have := DpAll.len hd2; rwa [List.length_map] at this
    have hc := common_le (winds es f1) (winds es f2)
    refine ⟨_, rfl, _, rfl, t1, t2, xs1, xs2, _, _, rfl, sqt_same s2 ht1, dps_same s2 _ _ hd1, ht2, hd2, w1, w2, fun H3 s3 => ?_⟩
    refine ⟨_, rfl, _, rfl, _, rfl, ?_⟩
    refine sl_from (sqt_same (s2.trans s3) ht1) (by omega) fun t3 H4 s4 ht3 => ?_
    refine ⟨t3, _, rfl, ht3, fun t4 hp4 => ⟨t4, rfl, ⟨_, .inl (.inl upd_same)⟩, fun D1 hD1 => ?_⟩⟩
    have s14 := ((s2.trans s3).trans s4).trans (same_new (o := .tup (xs1.drop (common (winds es f1) (winds es f2))).reverse) hp4)
    have hr1 : DpAll K (upd H4 t4 (.tup (xs1.drop (common (winds es f1) (winds es f2))).reverse)) (xs1.drop (common (winds es f1) (winds es f2))).reverse (((winds es f1).drop (common (winds es f1) (winds es f2))).reverse.map encP) := by
      rw [List.map_reverse, List.map_drop]
      exact DpAll.rev (DpAll.drop _ (dps_same s14 _ _ hd1))
    refine lc_pairs (wd := "leave") (walk_tup (K := K)) hr1 (by rw [List.length_reverse, List.length_drop]; omega) hD1 (fun H s => sqt_same s (.inl (.inl upd_same))) (fun _ => rfl) (fun _ => rfl) (fun _ => rfl) fun H5 acc1 s5 hacc1 hda1 => ?_
    refine ⟨_, rfl, _, rfl, _, rfl, _, rfl, ?_⟩
    refine sl_from (sqt_same (((s3.trans s4).trans (same_new hp4)).trans s5) ht2) (by omega) fun t6 H6 s6 ht6 => ?_
    refine ⟨t6, rfl, ⟨_, ht6⟩, fun D2 hD2 => ?_⟩
    have hr2 : DpAll K H6 (xs2.drop (common (winds es f1) (winds es f2))) (((winds es f2).drop (common (winds es f1) (winds es f2))).map encP) := by
      rw [List.map_drop]
      exact DpAll.drop _ (dps_same ((((s3.trans s4).trans (same_new hp4)).trans s5).trans s6) _ _ hd2)
    refine lc_pairs (wd := "enter") (walk_tup (K := K)) hr2 (by rw [List.length_drop]; omega) hD2 (fun H s => sqt_same s ht6) (fun _ => rfl) (fun _ => rfl) (fun _ => rfl) fun H7 acc2 s7 hacc2 hda2 => ?_
    have hl1 := DpAll.len hda1
    have hl2 := DpAll.len hda2
    simp only [List.length_map, List.length_reverse, List.length_drop] at hl1 hl2
    refine ⟨D1, D2, acc1, acc2, rfl, rfl, (s6.trans s7) _ _ hacc1, hacc2, Nat.le_trans (show acc1.length + acc2.length ≤ 50000 by omega) (by decide), fun p hp => ?_⟩
    refine .inl ⟨p, _, rfl, .inl (.inl upd_same), fun t ht => ?_⟩
    have sall := (same_new (o := .lst (acc1 ++ acc2)) hp).trans (same_new (o := .tup (acc1 ++ acc2)) ht)
    refine k t _ _ ((((s1.trans s14).trans s5).trans (s6.trans s7)).trans sall) (.inl (.inl upd_same)) ?_
    unfold deedsM
    rw [List.map_append]
    exact DpAll.app (dps_same ((s6.trans s7).trans sall) _ _ hda1) (dps_same sall _ _ hda2)
end
end K11

namespace K11
open PySem L2 Cm
/-- how many frames lie up to and with the topmost mark -/
def cutM (es : Things) (fs : List Int) : Nat → Nat
  | 0 => 0
  | n + 1 => if word es (fs.getD n 0) = "mark" then n + 1 else cutM es fs n
theorem cutM_le (es : Things) (fs : List Int) : ∀ n, cutM es fs n ≤ n
  | 0 => Nat.le_refl _
  | n + 1 => by
    have := cutM_le es fs n
    unfold cutM
    split <;> omega
theorem cutM_at (es : Things) (fs : List Int) : ∀ n, cutM es fs n = 0 ∨ ∃ j, cutM es fs n = j + 1 ∧ j < n ∧ word es (fs.getD j 0) = "mark"
  | 0 => .inl rfl
  | n + 1 => by
    unfold cutM
    split
    · rename_i h
      exact .inr ⟨n, rfl, by omega, h⟩
    · rcases cutM_at es fs n with h | ⟨j, h1, h2, h3⟩
      · exact .inl h
      · exact .inr ⟨j, h1, by omega, h3⟩
theorem cutM_top (es : Things) (fs : List Int) : ∀ n j, j < n → word es (fs.getD j 0) = "mark" → j + 1 ≤ cutM es fs n
  | 0, j, h, _ => absurd h (Nat.not_lt_zero _)
  | n + 1, j, h, hw => by
    unfold cutM
    split
    · omega
    · rename_i q
      by_cases e : j = n
      · subst e
        exact absurd hw q
      · exact cutM_top es fs n j (by omega) hw
def markR (es : Things) (fs : List Int) (i : Nat) : Option Int := (fs[i]?).bind fun b => if word es b = "mark" then some ((i : Int) + 1) else none
def marks (es : Things) (fs : List Int) : List Int := (List.range fs.length).filterMap (markR es fs)
theorem marks_mem {es : Things} {fs : List Int} {m : Int} : m ∈ marks es fs ↔ ∃ j, j < fs.length ∧ word es (fs.getD j 0) = "mark" ∧ m = (j : Int) + 1 := by
  unfold marks
  rw [List.mem_filterMap]
  constructor
  · rintro ⟨j, hj, e⟩
    have hj' := List.mem_range.mp hj
    unfold markR at e
    rw [List.getElem?_eq_getElem hj'] at e
    have e' : (if word es fs[j] = "mark" then some ((j : Int) + 1) else none) = some m := e
    split at e'
    · rename_i h
      refine ⟨j, hj', ?_, (Option.some.inj e').symm⟩
      rw [List.getD_eq_getElem?_getD, List.getElem?_eq_getElem hj']
      exact h
    · cases e'
  · rintro ⟨j, hj, h, rfl⟩
    refine ⟨j, List.mem_range.mpr hj, ?_⟩
    unfold markR
    rw [List.getElem?_eq_getElem hj]
    rw [List.getD_eq_getElem?_getD, List.getElem?_eq_getElem hj] at h
    exact if_pos h
theorem marks_max {es : Things} {fs : List Int} {m : Int} (h1 : m ∈ (0 : Int) :: marks es fs) (h2 : ∀ y, y ∈ (0 : Int) :: marks es fs → y ≤ m) : m = (cutM es fs fs.length : Nat) := by
  have a : (cutM es fs fs.length : Int) ≤ m := by
    rcases cutM_at es fs fs.length with h | ⟨j, e, hj, hw⟩
    · rw [h]
      exact h2 0 List.mem_cons_self
    · rw [e]
      exact h2 _ (List.mem_cons_of_mem _ (marks_mem.mpr ⟨j, hj, hw, by omega⟩))
  have b : m ≤ (cutM es fs fs.length : Int) := by
    rcases List.mem_cons.mp h1 with rfl | h1
    · omega
    · obtain ⟨j, hj, hw, rfl⟩ := marks_mem.mp h1
      have := cutM_top es fs fs.length j hj hw
      omega
  omega
def turnM (ds : List Dd) : List Dd := ds.reverse.map fun p => (if p.1 = ("leave" : Str) then ("enter" : Str) else "leave", p.2)
theorem turn_deeds (l e : List (Int × Int)) : turnM (deedsM l e) = deedsM e l := by
  unfold turnM deedsM
  rw [List.reverse_append, List.map_append, common_comm e l]
  congr 1
  · rw [← List.map_reverse, List.map_map]
    refine List.map_congr_left fun p _ => ?_
    show (if ("enter" : Str) = "leave" then ("enter" : Str) else "leave", p.1, p.2) = _
    rw [if_neg (by decide +kernel)]
  · rw [← List.map_reverse, List.reverse_reverse, List.map_map]
    refine List.map_congr_left fun p _ => ?_
    show (if ("leave" : Str) = "leave" then ("enter" : Str) else "leave", p.1, p.2) = _
    rw [if_pos rfl]
/-- a number out of frames and things -/
def spNum (K : PySem.W.Frag) (g : Things → List Int → Nat) : Sp := fun vs H Q _ => ∃ (a d : Addr) (fs : List Int) (es : Things) (kvs : List (Key × V)), vs = [.ref a, .ref d] ∧ Fr K H a d fs es kvs ∧
  ∀ (H' : Hp), Same H H' → Q (.int (g es fs : Nat)) H'
def cutAll (es : Things) (fs : List Int) : Nat := cutM es fs fs.length
section
variable {P : Program} {w : World} {K : PySem.W.Frag} {mg : Str → Option Value} {base : Heap}
abbrev s_p_mark_cut : Stmt := top 4
abbrev N_p_mark_cut : List Str := ["frames", "things", "many"]
theorem sc_p_mark_cut : FnScope N_p_mark_cut ["frames", "things"] (defScope s_p_mark_cut) := ⟨rfl, rfl, rfl, by decide +kernel, rfl, by decide +kernel, by decide +kernel⟩
theorem ok_mark_cut (T : Txt mg) (D : At K mg "mark_cut" s_p_mark_cut ["frames", "things"]) : Cl P w K mg base 1 "mark_cut" (spNum K cutAll) := by
  refine cl_of D sc_p_mark_cut (fun vs H Q E h => ?_) fun f cdv A outer s H vs Q E hr h => ?_
  · obtain ⟨a, d, fs, es, kvs, rfl, _⟩ := h
    rfl
  · obtain ⟨a, d, fs, es, kvs, rfl, x, k⟩ := h
    have hu := hu_of hr
    refine ⟨_, (pss_cons (ps_for PassesOwn.never rfl (pi_range3 (by rfl) T.range (pa_cons (pe_callB call_len_seq (by rfl) T.len (by decide +kernel) (pa_cons (pv 0) pa_nil)) (pa_cons pe_int (pa_cons (pe_un un_neg pe_int) pa_nil)))) (pg_name (i := 2) sc_p_mark_cut.nd rfl (Or.inl rfl))
        (pss_one (ps_if (pt_cmpR op_eq (pe_ix ix_tup (pe_dget hu (pv 1) (pe_ix ix_tup (pv 0) (pe_op op_sub (pv 2) pe_int) (fun _ _ => rfl)) (fun _ _ => rfl)) pe_int (fun _ _ => rfl)) pe_str (nomark _))
          (pss_one (ps_ret (pv 2)))
          pss_nil)))
      (pss_one (ps_ret pe_int))), ?_⟩
    have hlen : (fs.map V.int).length = fs.length := List.length_map ..
    have xl := x.len
    refine ⟨_, rfl, a, _, rfl, .inr x.fr, _, rfl, _, _, _, _, rfl, RgC.neg (by omega) (by omega) (by decide) (by decide), ?_⟩
    rw [hlen]
    refine for_it (walk_rangeC (n := ((fs.length : Int) - 0).toNat)) (fun i σ H' => ∃ v, σ = [some (.ref a), some (.ref d), v] ∧ Same H H' ∧ cutAll es fs = cutM es fs (fs.length - i)) ⟨none, rfl, Same.refl H, rfl⟩ (fun _ _ _ _ _ => trivial) ?_ ?_
    · rintro i v σ H0 H1 hi ⟨v2, rfl, s1, e⟩ ⟨rfl, rfl⟩
      have hj : fs.length - i = (fs.length - i - 1) + 1 := by omega
      have hlt : fs.length - i - 1 < fs.length := by omega
      have eb : fs[fs.length - i - 1]? = some fs[fs.length - i - 1] := List.getElem?_eq_getElem hlt
      have ed : fs.getD (fs.length - i - 1) 0 = fs[fs.length - i - 1] := by rw [List.getD_eq_getElem?_getD, eb]; rfl
      have ei : ((fs.length : Int) + (i : Int) * -1) - 1 = ((fs.length - i - 1 : Nat) : Int) := by omega
      have hat : atI (fs.map V.int) (((fs.length : Int) + (i : Int) * -1) - 1) = some (.int fs[fs.length - i - 1]) := by
        rw [ei]
        exact atI_nat (by rw [List.getElem?_map, eb]; rfl)
      obtain ⟨p, its, g1, g2, g3, _⟩ := (x.th.same s1).get (x.ins _ (List.getElem_mem hlt))
      rw [hj] at e
      unfold cutM at e
      rw [ed] at e
      refine ⟨_, rfl, _, rfl, _, rfl, _, _, rfl, rfl, a, _, _, _, rfl, rfl, sqt_same s1 x.fr, hat, d, _, rfl, g1, p, its, _, _, rfl, rfl, g2, g3, rfl, _, rfl, ?_⟩
      rw [decS]
      by_cases hw : word es fs[fs.length - i - 1] = "mark"
      · rw [decide_eq_true hw]
        rw [if_pos hw] at e
        refine iteT ⟨_, rfl, ?_⟩
        have ez : ((fs.length : Int) + (i : Int) * -1) = ((cutAll es fs : Nat) : Int) := by rw [e]; omega
        show Q (.int ((fs.length : Int) + (i : Int) * -1)) H1
        rw [ez]
        exact k _ s1
      · rw [decide_eq_false hw]
        rw [if_neg hw] at e
        refine iteF ⟨_, rfl, s1, ?_⟩
        rw [e]
        congr 1
    · rintro σ H1 ⟨v2, rfl, s1, e⟩
      have e0 : cutAll es fs = 0 := by
        rw [e, show fs.length - ((fs.length : Int) - 0).toNat = 0 by omega]
        rfl
      show Q (.int 0) H1
      have := k H1 s1
      rw [e0] at this
      exact this

end
end K11

namespace K11
open PySem L2 Cm
theorem dp_encD {K : PySem.W.Frag} {H : Hp} {v : V} {p : Dd} (h : Dp K H v (encD p)) : ∃ t, v = .ref t ∧ SqT K H t [.str p.1, .int p.2.1, .int p.2.2] := by
  unfold encD at h
  cases h with
  | tup hs ha =>
    cases ha with
    | cons h1 h2 =>
      cases h1
      cases h2 with
      | cons h3 h4 =>
        cases h3
        cases h4 with
        | cons h5 h6 =>
          cases h5
          cases h6
          exact ⟨_, rfl, hs⟩
def spTurned (K : PySem.W.Frag) : Sp := fun vs H Q _ => ∃ (l : Addr) (xs : List V) (ds : List Dd), vs = [.ref l] ∧ H l = some (.lst xs) ∧ DpAll K H xs (ds.map encD) ∧ ds.length ≤ 50000 ∧
  ∀ (m : Addr) (ys : List V) (H' : Hp), Same H H' → H m = Option.none → H' m = some (.lst ys) → DpAll K H' ys ((turnM ds).map encD) → Q (.ref m) H'
def spDeedsL (K : PySem.W.Frag) : Sp := fun vs H Q _ => ∃ (a b d : Addr) (f1 f2 : List Int) (es : Things) (kvs : List (Key × V)), vs = [.ref a, .ref b, .ref d] ∧ Fr K H a d f1 es kvs ∧ Fr K H b d f2 es kvs ∧
  ∀ (t m : Addr) (xs : List V) (H' : Hp), Same H H' → SqT K H' t [.int (common (winds es f1) (winds es f2) : Nat), .ref m] → H m = Option.none → H' m = some (.lst xs) → DpAll K H' xs ((deedsM (winds es f1) (winds es f2)).map encD) → Q (.ref t) H'
section
variable {P : Program} {w : World} {K : PySem.W.Frag} {mg : Str → Option Value} {base : Heap}

end
end K11

namespace K11
open PySem L2 Cm
theorem cat_any {K : PySem.W.Frag} {a b : Addr} {xs ys : List V} {H : Hp} {Q : VK} (ha : SqT K H a xs) (hb : SqT K H b ys) (hl : xs.length + ys.length ≤ sizeLine)
    (h : ∀ t H', Same H H' → SqT K H' t (xs ++ ys) → Q (.ref t) H') : rCatA K (.ref a) (.ref b) H Q := by
  refine ⟨a, b, xs, ys, rfl, rfl, ha, hb, hl, fun e => ?_, fun _ e => ?_, fun _ _ p hp => h p _ (same_new hp) (.inl (.inl upd_same))⟩
  · exact h b H (Same.refl H) (by rw [e]; exact hb)
  · exact h a H (Same.refl H) (by rw [e, List.append_nil]; exact ha)
def spNear (K : PySem.W.Frag) : Sp := fun vs H Q _ => ∃ (h c d a : Addr) (es : Things) (kvs : List (Key × V)) (n : Nat) (fs : List Int), vs = [.ref h, .ref d, .ref a] ∧ Hand H h c ∧ ThAt K H d es kvs ∧ es.map (·.1) = births n ∧ 1 ≤ n ∧ n ≤ 60 ∧
  SqT K H a (fs.map V.int) ∧ fs.length ≤ 10000 ∧ (∀ b ∈ fs, b ∈ births n) ∧
  ∀ (t : Addr) (gs : List Int) (H' : Hp), Kh h H H' → Hand H' h c → SqT K H' t (gs.map V.int) → gs.length ≤ 3 * fs.length + 6 → (∀ b ∈ gs, b ∈ births n) → Q (.ref t) H'
section
variable {P : Program} {w : World} {K : PySem.W.Frag} {mg : Str → Option Value} {base : Heap}

end
end K11

namespace K11
open PySem L2 Cm
/-! winds of beginnings of rows; the steps of a way -/
def windsF (es : Things) : Nat → List Int → List (Int × Int)
  | _, [] => []
  | k, b :: r => (if word es b = "wind" then [((k : Int), b)] else []) ++ windsF es (k + 1) r
theorem windsF_is (es : Things) : ∀ (fs : List Int) (k : Nat), (List.range fs.length).filterMap (fun i => (fs[i]?).bind fun b => if word es b = "wind" then some (((k + i : Nat) : Int), b) else Option.none) = windsF es k fs
  | [], _ => rfl
  | b :: r, k => by
    rw [List.length_cons, List.range_succ_eq_map, List.filterMap_cons, List.filterMap_map]
    have ih := windsF_is es r (k + 1)
    have e : ((fun i => ((b :: r)[i]?).bind fun b => if word es b = "wind" then some (((k + i : Nat) : Int), b) else Option.none) ∘ Nat.succ) = fun i => (r[i]?).bind fun b => if word es b = "wind" then some (((k + 1 + i : Nat) : Int), b) else Option.none := by
      funext i
      show (r[i]?).bind _ = (r[i]?).bind _
      have : k + Nat.succ i = k + 1 + i := by omega
      rw [this]
    rw [e, ih, List.getElem?_cons_zero, Option.bind_some]
    rw [show windsF es k (b :: r) = (if word es b = "wind" then [((k : Int), b)] else []) ++ windsF es (k + 1) r from rfl]
    by_cases h : word es b = "wind"
    · rw [if_pos h, if_pos h]
      rfl
    · rw [if_neg h, if_neg h]
      rfl
theorem winds_F (es : Things) (fs : List Int) : winds es fs = windsF es 0 fs := by
  rw [← windsF_is es fs 0]
  unfold winds windR
  congr 1
  funext i
  have : 0 + i = i := by omega
  rw [this]
theorem windsF_app (es : Things) : ∀ (xs ys : List Int) (k : Nat), windsF es k (xs ++ ys) = windsF es k xs ++ windsF es (k + xs.length) ys
  | [], ys, k => rfl
  | x :: xs, ys, k => by
    show _ ++ windsF es (k + 1) (xs ++ ys) = (_ ++ windsF es (k + 1) xs) ++ windsF es (k + (xs.length + 1)) ys
    rw [windsF_app es xs ys (k + 1), List.append_assoc, show k + 1 + xs.length = k + (xs.length + 1) by omega]
theorem windsF_mem (es : Things) : ∀ (fs : List Int) (k : Nat) (p : Int × Int), p ∈ windsF es k fs → ∃ i, i < fs.length ∧ p.1 = ((k + i : Nat) : Int) ∧ fs[i]? = some p.2 ∧ word es p.2 = "wind"
  | [], _, _, h => by cases h
  | b :: r, k, p, h => by
    rcases List.mem_append.mp h with q | q
    · by_cases hw : word es b = "wind"
      · rw [if_pos hw] at q
        cases List.mem_singleton.mp q
        exact ⟨0, by simp, rfl, rfl, hw⟩
      · rw [if_neg hw] at q
        cases q
    · obtain ⟨i, h1, h2, h3, h4⟩ := windsF_mem es r (k + 1) p q
      exact ⟨i + 1, by rw [List.length_cons]; omega, by rw [h2]; omega, h3, h4⟩
theorem wind_at {es : Things} {fs : List Int} {j : Nat} {p : Int × Int} (h : (winds es fs)[j]? = some p) :
    ∃ m : Nat, p.1 = (m : Int) ∧ m < fs.length ∧ fs[m]? = some p.2 ∧ word es p.2 = "wind" ∧ winds es (fs.take m) = (winds es fs).take j ∧ winds es (fs.take (m + 1)) = (winds es fs).take (j + 1) := by
  rw [winds_F] at h
  obtain ⟨m, h1, h2, h3, h4⟩ := windsF_mem es fs 0 p (List.mem_of_getElem? h)
  rw [Nat.zero_add] at h2
  have hm : fs[m] = p.2 := by
    rw [List.getElem?_eq_getElem h1] at h3
    exact Option.some.inj h3
  have e1 : fs = fs.take m ++ fs.drop m := (List.take_append_drop m fs).symm
  have e2 : fs.drop m = p.2 :: fs.drop (m + 1) := by
    rw [List.drop_eq_getElem_cons h1, hm]
  have lt : (fs.take m).length = m := by rw [List.length_take]; omega
  have split : windsF es 0 fs = windsF es 0 (fs.take m) ++ (p :: windsF es (m + 1) (fs.drop (m + 1))) := by
    conv => lhs; rw [e1, windsF_app, lt, e2]
    rw [Nat.zero_add]
    show _ ++ ((if word es p.2 = "wind" then [((m : Int), p.2)] else []) ++ _) = _
    rw [if_pos h4, ← h2]
    rfl
  have hj : j = (windsF es 0 (fs.take m)).length := by
    rcases Nat.lt_trichotomy j (windsF es 0 (fs.take m)).length with q | q | q
    · rw [split, List.getElem?_append_left q] at h
      obtain ⟨i, g1, g2, _, _⟩ := windsF_mem es _ 0 p (List.mem_of_getElem? h)
      rw [lt] at g1
      omega
    · exact q
    · rw [split, List.getElem?_append_right (by omega)] at h
      obtain ⟨n, hn⟩ : ∃ n, j - (windsF es 0 (fs.take m)).length = n + 1 := ⟨j - (windsF es 0 (fs.take m)).length - 1, by omega⟩
      rw [hn, List.getElem?_cons_succ] at h
      obtain ⟨i, g1, g2, _, _⟩ := windsF_mem es _ (m + 1) p (List.mem_of_getElem? h)
      omega
  refine ⟨m, h2, h1, h3, h4, ?_, ?_⟩
  · rw [winds_F, winds_F, split, hj, List.take_left]
  · have e3 : fs.take (m + 1) = fs.take m ++ [p.2] := by
      rw [List.take_add_one, h3]
      rfl
    rw [winds_F, winds_F, e3, windsF_app, lt, split, hj]
    have e4 : windsF es (0 + m) [p.2] = [p] := by
      show (if word es p.2 = "wind" then [(((0 + m : Nat) : Int), p.2)] else []) ++ [] = [p]
      rw [if_pos h4, Nat.zero_add, ← h2]
      rfl
    rw [e4, List.take_length_add_append]
    rfl
def encF (fs : List Int) : PyData := .tuple (fs.map PyData.int)
def roadD (goal : List Int) (n : Int) : PyData := .tuple [.str "to", encF goal, .int n]
def stepD (w : Str) (deed : Int) (fs goal : List Int) (n : Int) : PyData := .tuple [.str w, .int deed, encF fs, roadD goal n]
def arriveD (fs : List Int) : PyData := .tuple [.str "arrive", .none, encF fs, .none]
/-- where a way stands -/
def presM (es : Things) (below goal : List Int) (n : Nat) : List Int := if n = 0 then below else goal.take ((((winds es goal)[n - 1]?).getD (0, 0)).1.toNat + 1)
def toStep (es : Things) (pres goal : List Int) : PyData :=
  match deedsM (winds es pres) (winds es goal) with
  | [] => arriveD goal
  | d :: _ => if d.1 = ("leave" : Str) then stepD "leave" (2000 + d.2.2) (pres.take d.2.1.toNat) goal 0 else stepD "enter" (1000 + d.2.2) (goal.take d.2.1.toNat) goal ((winds es (goal.take d.2.1.toNat)).length + 1 : Nat)
/-- the step behind the first j enters -/
def sE (es : Things) (goal : List Int) (j : Nat) : PyData :=
  match (winds es goal)[j]? with
  | Option.none => arriveD goal
  | some p => stepD "enter" (1000 + p.2) (goal.take p.1.toNat) goal (j + 1 : Nat)
/-- the step where m winds of the present still stand -/
def sL (es : Things) (present goal : List Int) (m : Nat) : PyData :=
  if common (winds es present) (winds es goal) < m then stepD "leave" (2000 + (((winds es present)[m - 1]?).getD (0, 0)).2) (present.take (((winds es present)[m - 1]?).getD (0, 0)).1.toNat) goal 0
  else sE es goal (common (winds es present) (winds es goal))
theorem common_cut : ∀ (l e : List (Int × Int)) (m : Nat), common l e ≤ m → common (l.take m) e = common l e
  | [], e, m, _ => by rw [List.take_nil]
  | a :: l, [], m, _ => by cases m <;> rfl
  | a :: l, b :: e, 0, h => by
    have : common (a :: l) (b :: e) = 0 := by omega
    rw [this, List.take_zero]
    rfl
  | a :: l, b :: e, m + 1, h => by
    rw [List.take_succ_cons]
    unfold common at h ⊢
    by_cases q : a.2 = b.2
    · rw [if_pos q] at h ⊢
      rw [if_pos q, common_cut l e m (by omega)]
    · rw [if_neg q, if_neg q]
theorem common_pre : ∀ (e : List (Int × Int)) (m : Nat), common (e.take m) e = (e.take m).length
  | [], m => by rw [List.take_nil]; rfl
  | b :: e, 0 => rfl
  | b :: e, m + 1 => by
    rw [List.take_succ_cons]
    unfold common
    rw [if_pos rfl, common_pre e m, List.length_cons]
theorem enter_step (es : Things) {pres goal : List Int} {l : List (Int × Int)} (hw : winds es pres = l) (hl : l.length ≤ common l (winds es goal)) : toStep es pres goal = sE es goal (common l (winds es goal)) := by
  unfold toStep sE
  rw [hw]
  have e : deedsM l (winds es goal) = ((winds es goal).drop (common l (winds es goal))).map fun p => (("enter" : Str), p.1, p.2) := by
    unfold deedsM
    rw [List.drop_eq_nil_of_le hl]
    rfl
  rw [e]
  cases h : (winds es goal)[common l (winds es goal)]? with
  | none =>
    rw [List.drop_eq_nil_of_le (by rw [List.getElem?_eq_none_iff] at h; exact h)]
    rfl
  | some p =>
    obtain ⟨hlt, hp⟩ := List.getElem?_eq_some_iff.mp h
    rw [List.drop_eq_getElem_cons hlt, hp]
    obtain ⟨m, e1, _, _, _, e5, _⟩ := wind_at h
    show (if ("enter" : Str) = "leave" then _ else stepD "enter" (1000 + p.2) (goal.take p.1.toNat) goal ((winds es (goal.take p.1.toNat)).length + 1 : Nat)) = _
    rw [if_neg (by decide +kernel)]
    show _ = stepD "enter" (1000 + p.2) (goal.take p.1.toNat) goal (common l (winds es goal) + 1 : Nat)
    rw [e1, show ((m : Int)).toNat = m from rfl, e5, List.length_take, Nat.min_eq_left (by omega)]
theorem leave_step (es : Things) {present goal : List Int} {k m : Nat} (hw : winds es (present.take k) = (winds es present).take m) (hc : common (winds es present) (winds es goal) ≤ m) (hm : m ≤ (winds es present).length)
    (hk : ∀ p, (winds es present)[m - 1]? = some p → 0 < m → p.1.toNat ≤ k) : toStep es (present.take k) goal = sL es present goal m := by
  unfold sL
  have ec := common_cut (winds es present) (winds es goal) m hc
  have hlen : ((winds es present).take m).length = m := by rw [List.length_take]; omega
  by_cases h : common (winds es present) (winds es goal) < m
  · rw [if_pos h]
    obtain ⟨n, rfl⟩ : ∃ n, m = n + 1 := ⟨m - 1, by omega⟩
    have hlt : n < (winds es present).length := by omega
    have hp : (winds es present)[n + 1 - 1]? = some (winds es present)[n] := List.getElem?_eq_getElem hlt
    have e : deedsM ((winds es present).take (n + 1)) (winds es goal) = (("leave" : Str), (winds es present)[n].1, (winds es present)[n].2) :: ((((winds es present).take n).drop (common (winds es present) (winds es goal))).reverse.map (fun p => (("leave" : Str), p.1, p.2)) ++ ((winds es goal).drop (common (winds es present) (winds es goal))).map fun p => (("enter" : Str), p.1, p.2)) := by
      unfold deedsM
      rw [ec, List.take_add_one, List.getElem?_eq_getElem hlt, List.drop_append_of_le_length (by rw [List.length_take]; omega), List.reverse_append]
      rfl
    unfold toStep
    rw [hw, e]
    show (if ("leave" : Str) = "leave" then stepD "leave" (2000 + (winds es present)[n].2) ((present.take k).take (winds es present)[n].1.toNat) goal 0 else _) = _
    have hk' := hk _ hp (by omega)
    rw [if_pos rfl, hp, List.take_take, Nat.min_eq_left hk']
    rfl
  · rw [if_neg h]
    have hm' : m = common (winds es present) (winds es goal) := by omega
    rw [enter_step es hw (by rw [ec, hlen]; omega), ec]
theorem enter_next (es : Things) {goal : List Int} {below : List Int} {j : Nat} (hj : j < (winds es goal).length) : toStep es (presM es below goal (j + 1)) goal = sE es goal (j + 1) := by
  have h : (winds es goal)[j]? = some (winds es goal)[j] := List.getElem?_eq_getElem hj
  obtain ⟨m, e1, _, _, _, _, e6⟩ := wind_at h
  have ep : presM es below goal (j + 1) = goal.take (m + 1) := by
    unfold presM
    rw [if_neg (by omega), show j + 1 - 1 = j from rfl, h]
    show goal.take ((winds es goal)[j].1.toNat + 1) = _
    rw [e1]
    rfl
  have ec := common_pre (winds es goal) (j + 1)
  have el : ((winds es goal).take (j + 1)).length = j + 1 := by rw [List.length_take]; omega
  rw [ep, enter_step es e6 (by rw [ec]; exact Nat.le_refl _), ec, el]
end K11

namespace K11
open PySem L2 Cm
theorem th_windAt {K : PySem.W.Frag} {H : Hp} {d : Addr} {es : Things} {kvs : List (Key × V)} {b : Int} (x : ThAt K H d es kvs) (m : b ∈ es.map (·.1)) (hw : word es b = "wind") :
    ∃ p : Addr, DGet H d (.int b) (some (.ref p)) ∧ SqT K H p [.str "wind", .int (1000 + b), .int (2000 + b)] := by
  obtain ⟨p, its, g1, _, _, g4, g5⟩ := x.get m
  rw [g5.wn hw] at g4
  refine ⟨p, g1, ?_⟩
  unfold windD at g4
  cases g4 with
  | tup hs ha =>
    cases ha with
    | cons a1 ha =>
      cases ha with
      | cons a2 ha =>
        cases ha with
        | cons a3 ha =>
          cases ha
          cases a1
          cases a2
          cases a3
          exact hs
theorem dp_encF {K : PySem.W.Frag} {H : Hp} {a : Addr} {fs : List Int} (h : SqT K H a (fs.map V.int)) : Dp K H (.ref a) (encF fs) := .tup h (dpAll_ints fs)
theorem deeds_mem {l e : List (Int × Int)} {q : Dd} (h : q ∈ deedsM l e) : (∃ p ∈ l, q = (("leave" : Str), p.1, p.2)) ∨ (∃ p ∈ e, q = (("enter" : Str), p.1, p.2)) := by
  unfold deedsM at h
  rcases List.mem_append.mp h with h | h
  · obtain ⟨p, hp, rfl⟩ := List.mem_map.mp h
    exact .inl ⟨p, List.mem_of_mem_drop (List.mem_reverse.mp hp), rfl⟩
  · obtain ⟨p, hp, rfl⟩ := List.mem_map.mp h
    exact .inr ⟨p, List.mem_of_mem_drop hp, rfl⟩
def spStepTo (K : PySem.W.Frag) : Sp := fun vs H Q _ => ∃ (a b d : Addr) (below goal : List Int) (es : Things) (kvs : List (Key × V)) (n : Nat), vs = [.ref a, .ref b, .int (n : Nat), .ref d] ∧ Fr K H a d below es kvs ∧ Fr K H b d goal es kvs ∧ n ≤ (winds es goal).length ∧
  ∀ (v : V) (H' : Hp), Same H H' → Dp K H' v (toStep es (presM es below goal n) goal) → Q v H'
section
variable {P : Program} {w : World} {K : PySem.W.Frag} {mg : Str → Option Value} {base : Heap}
abbrev s_p_step_to : Stmt := top 7
abbrev N_p_step_to : List Str := ["below", "frames", "number", "things", "present", "deeds", "word", "position", "birth", "entered"]
theorem sc_p_step_to : FnScope N_p_step_to ["below", "frames", "number", "things"] (defScope s_p_step_to) := ⟨rfl, rfl, rfl, by decide +kernel, rfl, by decide +kernel, by decide +kernel⟩
theorem ok_step_to (T : Txt mg) (c_p_winds_of : Cl P w K mg base 1 "winds_of" (spWindsT K)) (c_p_deeds_of_way : Cl P w K mg base 2 "deeds_of_way" (spDeeds K)) (D : At K mg "_step_to" s_p_step_to ["below", "frames", "number", "things"]) : Cl P w K mg base 3 "_step_to" (spStepTo K) := by
  refine cl_of D sc_p_step_to (fun vs H Q E h => ?_) fun f cdv A outer s H vs Q E hr h => ?_
  · obtain ⟨a, b, d, below, goal, es, kvs, n, rfl, _⟩ := h
    rfl
  · obtain ⟨a, b, d, below, goal, es, kvs, n, rfl, hb, hg, hn, k⟩ := h
    have hu := hu_of hr
    refine ⟨_, (pss_cons (ps_set (i := 4) sc_p_step_to.nd rfl (Or.inl rfl) (pv 0))
      (pss_mid (ps_if (pt_cmpR op_gt (pv 2) pe_int (nomark _))
        (pss_one (ps_set (i := 4) sc_p_step_to.nd rfl (Or.inl rfl) (pe_slice sl_tupA (pv 1) po_none (po_some (pe_op op_add (pe_ix ix_tup (pe_ix ix_tup (pe_c c_p_winds_of hr (by decide) (by rfl) (pa_cons (pv 1) (pa_cons (pv 3) pa_nil))) (pe_op op_sub (pv 2) pe_int) (fun _ _ => rfl)) pe_int (fun _ _ => rfl)) pe_int)))))
        pss_nil)
      (pss_cons (ps_set (i := 5) sc_p_step_to.nd rfl (Or.inl rfl) (pe_c c_p_deeds_of_way hr (by decide) (by rfl) (pa_cons (pv 4) (pa_cons (pv 1) (pa_cons (pv 3) pa_nil)))))
      (pss_cons (ps_if (pt_not (pt_truth (pv 5) (by intro _; rfl)))
        (pss_one (ps_ret (pe_tup (pa_cons pe_str (pa_cons pe_non (pa_cons (pv 1) (pa_cons pe_non pa_nil)))))))
        pss_nil)
      (pss_cons (ps_asg (pe_ix ix_tup (pv 5) pe_int (fun _ _ => rfl)) (pg_tup (by rfl) (pgs_cons (pg_name (i := 6) sc_p_step_to.nd rfl (Or.inl rfl)) (pgs_cons (pg_name (i := 7) sc_p_step_to.nd rfl (Or.inl rfl)) (pgs_cons (pg_name (i := 8) sc_p_step_to.nd rfl (Or.inl rfl)) pgs_nil)))))
      (pss_cons (ps_if (pt_cmpR op_eq (pv 6) pe_str (nomark _))
        (pss_one (ps_ret (pe_tup (pa_cons (pv 6) (pa_cons (pe_ix ix_tup (pe_dget hu (pv 3) (pv 8) (fun _ _ => rfl)) pe_int (fun _ _ => rfl)) (pa_cons (pe_slice sl_tupA (pv 4) po_none (po_some (pv 7))) (pa_cons (pe_tup (pa_cons pe_str (pa_cons (pv 1) (pa_cons pe_int pa_nil)))) pa_nil)))))))
        pss_nil)
      (pss_cons (ps_set (i := 9) sc_p_step_to.nd rfl (Or.inl rfl) (pe_op op_add (pe_callB call_len_seq (by rfl) T.len (by decide +kernel) (pa_cons (pe_c c_p_winds_of hr (by decide) (by rfl) (pa_cons (pe_slice sl_tupA (pv 1) po_none (po_some (pv 7))) (pa_cons (pv 3) pa_nil))) pa_nil)) pe_int))
      (pss_one (ps_ret (pe_tup (pa_cons (pv 6) (pa_cons (pe_ix ix_tup (pe_dget hu (pv 3) (pv 8) (fun _ _ => rfl)) pe_int (fun _ _ => rfl)) (pa_cons (pe_slice sl_tupA (pv 1) po_none (po_some (pv 7))) (pa_cons (pe_tup (pa_cons pe_str (pa_cons (pv 1) (pa_cons (pv 9) pa_nil)))) pa_nil)))))))))))))), ?_⟩
    have wl := winds_len es goal
    have gl := hg.len
    refine ⟨_, rfl, ?_⟩
    refine ⟨fun σ' H' => ∃ (p : Addr), σ' = [some (.ref a), some (.ref b), some (.int (n : Nat)), some (.ref d), some (.ref p), none, none, none, none, none] ∧ Same H H' ∧ Fr K H' p d (presM es below goal n) es kvs, ?_, ?_⟩
    · refine ⟨_, rfl, _, _, rfl, rfl, _, rfl, ?_⟩
      by_cases h0 : n = 0
      · subst h0
        refine iteF ⟨a, rfl, Same.refl H, ?_⟩
        exact hb
      · rw [show decide ((0 : Int) < ((n : Nat) : Int)) = true from decide_eq_true (by omega)]
        refine iteT ?_
        obtain ⟨j, rfl⟩ : ∃ j, n = j + 1 := ⟨n - 1, by omega⟩
        have hj : j < (winds es goal).length := hn
        have hp : (winds es goal)[j]? = some (winds es goal)[j] := List.getElem?_eq_getElem hj
        obtain ⟨m, e1, e2, _, _, _, _⟩ := wind_at hp
        have ep : presM es below goal (j + 1) = goal.take (m + 1) := by
          unfold presM
          rw [if_neg (by omega), show j + 1 - 1 = j from rfl, hp]
          show goal.take ((winds es goal)[j].1.toNat + 1) = _
          rw [e1]
          rfl
        refine ⟨_, rfl, _, rfl, _, rfl, b, d, goal, es, kvs, rfl, hg, fun t xs H1 s1 ht hd => ?_⟩
        obtain ⟨v, g1, g2⟩ := DpAll.at hd (show ((winds es goal).map encP)[j]? = some (encP (winds es goal)[j]) by rw [List.getElem?_map, hp]; rfl)
        obtain ⟨u, rfl, hu1⟩ := dp_enc g2
        refine ⟨_, rfl, _, _, rfl, rfl, t, xs, _, _, rfl, rfl, ht, by rw [show ((j + 1 : Nat) : Int) - 1 = (j : Int) by omega]; exact atI_nat g1, u, _, _, _, rfl, rfl, hu1, rfl, _, _, rfl, rfl, ?_⟩
        rw [e1]
        refine ⟨_, rfl, ?_⟩
        refine sl_to (k := m + 1) (sqt_same s1 hg.fr) (by rw [List.length_map]; omega) fun p H2 s2 hp2 => ?_
        rw [← List.map_take] at hp2
        refine ⟨p, rfl, s1.trans s2, ?_⟩
        rw [ep]
        exact ⟨hp2, hg.th.same (s1.trans s2), fun z hz => hg.ins z (List.mem_of_mem_take hz), by rw [List.length_take]; omega⟩
    · rintro σ' H1 ⟨p, rfl, s1, hp⟩
      generalize presM es below goal n = pres at hp k
      have hg1 := hg.same s1
      refine ⟨_, rfl, _, rfl, _, rfl, p, b, d, pres, goal, es, kvs, rfl, hp, hg1, fun t xs H2 s2 ht hd => ?_⟩
      refine ⟨_, rfl, !xs.isEmpty, .inr (.inl ⟨xs, ht, rfl⟩), ?_⟩
      have s12 := s1.trans s2
      unfold toStep at k
      cases hD : deedsM (winds es pres) (winds es goal) with
      | nil =>
        rw [hD] at hd k
        cases hd
        refine iteT ⟨_, rfl, by show 4 ≤ sizeLine; decide, fun t2 ht2 => ?_⟩
        have s3 := same_new (o := .tup [.str "arrive", .non, .ref b, .non]) ht2
        exact k _ _ (s12.trans s3) (.tup (.inl (.inl upd_same)) (.cons (.str _) (.cons .non (.cons (dp_encF (sqt_same (s2.trans s3) hg1.fr)) (.cons .non .nil)))))
      | cons q r =>
        have hq : q ∈ deedsM (winds es pres) (winds es goal) := by rw [hD]; exact List.mem_cons_self
        rw [hD] at hd k
        cases hd with
        | @cons v xs' _ _ g1 g2 =>
          obtain ⟨u, rfl, hu1⟩ := dp_encD g1
          refine iteF ⟨_, rfl, t, _, _, _, rfl, rfl, ht, atI_nat (j := 0) rfl, u, _, rfl, hu1, rfl, _, _, rfl, _, _, rfl, _, _, rfl, rfl, ?_⟩
          refine ⟨_, rfl, rfl, _, rfl, ?_⟩
          rw [decS]
          rcases deeds_mem hq with ⟨⟨p1, b2⟩, hp2, rfl⟩ | ⟨⟨p1, b2⟩, hp2, rfl⟩
          · obtain ⟨j, hj⟩ := List.getElem?_of_mem hp2
            obtain ⟨m, e1, e2, e3, e4, _, _⟩ := wind_at hj
            cases (show p1 = (m : Int) from e1)
            have hin : b2 ∈ es.map (·.1) := hp.ins _ (List.mem_of_getElem? e3)
            obtain ⟨pw, gx, hpw⟩ := th_windAt (hp.th.same s2) hin e4
            rw [decide_eq_true rfl]
            refine iteT ⟨_, rfl, _, rfl, _, rfl, d, _, rfl, gx, pw, _, _, _, rfl, rfl, hpw, rfl, _, rfl, _, rfl, _, rfl, ?_⟩
            refine sl_to (k := m) (sqt_same s2 hp.fr) (by rw [List.length_map]; omega) fun t3 H3 s3 ht3 => ?_
            rw [← List.map_take] at ht3
            refine ⟨_, rfl, by show 3 ≤ sizeLine; decide, fun t4 ht4 => ⟨by show 4 ≤ sizeLine; decide, fun t5 ht5 => ?_⟩⟩
            have s4 := same_new (o := .tup [.str "to", .ref b, .int 0]) ht4
            have s5 := same_new (o := .tup [.str "leave", .int (2000 + b2), .ref t3, .ref t4]) ht5
            exact k _ _ (((s12.trans s3).trans s4).trans s5) (.tup (.inl (.inl upd_same)) (.cons (.str _) (.cons (.int _) (.cons (dp_encF (sqt_same (s4.trans s5) ht3))
              (.cons (.tup (.inl (.inl (s5 _ _ upd_same))) (.cons (.str _) (.cons (dp_encF (sqt_same (((s2.trans s3).trans s4).trans s5) hg1.fr)) (.cons (.int _) .nil)))) .nil)))))
          · obtain ⟨j, hj⟩ := List.getElem?_of_mem hp2
            obtain ⟨m, e1, e2, e3, e4, _, _⟩ := wind_at hj
            cases (show p1 = (m : Int) from e1)
            have hin : b2 ∈ es.map (·.1) := hg.ins _ (List.mem_of_getElem? e3)
            rw [decide_eq_false (show ¬ ("enter" : Str) = "leave" by decide +kernel)]
            refine iteF ⟨_, rfl, _, rfl, _, rfl, ?_⟩
            refine sl_to (k := m) (sqt_same s2 hg1.fr) (by rw [List.length_map]; omega) fun t3 H3 s3 ht3 => ?_
            rw [← List.map_take] at ht3
            have s13 := s12.trans s3
            refine ⟨_, rfl, t3, d, goal.take m, es, kvs, rfl, ⟨ht3, hg.th.same s13, fun z hz => hg.ins z (List.mem_of_mem_take hz), by rw [List.length_take]; omega⟩, fun t4 xs4 H4 s4 ht4 hd4 => ?_⟩
            have lx : xs4.length = (winds es (goal.take m)).length := by have := DpAll.len hd4; rwa [List.length_map] at this
            refine ⟨t4, _, rfl, .inr ht4, _, _, rfl, rfl, ?_⟩
            obtain ⟨pw, gx, hpw⟩ := th_windAt (hg.th.same (s13.trans s4)) hin e4
            refine ⟨_, rfl, _, rfl, _, rfl, d, _, rfl, gx, pw, _, _, _, rfl, rfl, hpw, rfl, _, rfl, _, rfl, _, rfl, ?_⟩
            refine sl_to (k := m) (sqt_same (s13.trans s4) hg.fr) (by rw [List.length_map]; omega) fun t5 H5 s5 ht5 => ?_
            rw [← List.map_take] at ht5
            refine ⟨_, rfl, _, rfl, by show 3 ≤ sizeLine; decide, fun t6 ht6 => ⟨by show 4 ≤ sizeLine; decide, fun t7 ht7 => ?_⟩⟩
            have s6 := same_new (o := .tup [.str "to", .ref b, .int ((xs4.length : Nat) + 1)]) ht6
            have s7 := same_new (o := .tup [.str "enter", .int (1000 + b2), .ref t5, .ref t6]) ht7
            refine k _ _ ((((s13.trans s4).trans s5).trans s6).trans s7) (.tup (.inl (.inl upd_same)) (.cons (.str _) (.cons (.int _) (.cons (dp_encF (sqt_same (s6.trans s7) ht5))
              (.cons (.tup (.inl (.inl (s7 _ _ upd_same))) (.cons (.str _) (.cons (dp_encF (sqt_same ((((s13.trans s4).trans s5).trans s6).trans s7) hg.fr)) (.cons ?_ .nil)))) .nil)))))
            rw [lx]
            exact .int _
end
end K11

namespace K11
open PySem L2 Cm
theorem map_int_inj : ∀ {a b : List Int}, a.map PyData.int = b.map PyData.int → a = b
  | [], [], _ => rfl
  | [], _ :: _, h => by cases h
  | _ :: _, [], h => by cases h
  | x :: a, y :: b, h => by
    simp only [List.map_cons, List.cons.injEq, PyData.int.injEq] at h
    rw [h.1, map_int_inj h.2]
theorem dp_tup {K : PySem.W.Frag} {H : Hp} {v : V} {ds : List PyData} (h : Dp K H v (.tuple ds)) : ∃ t xs, v = .ref t ∧ SqT K H t xs ∧ DpAll K H xs ds := by
  cases h with
  | tup hs ha => exact ⟨_, _, rfl, hs, ha⟩
theorem encF_dp {K : PySem.W.Frag} {H : Hp} {v : V} {fs : List Int} (h : Dp K H v (encF fs)) : ∃ t, v = .ref t ∧ SqT K H t (fs.map V.int) := by
  obtain ⟨t, xs, rfl, hs, ha⟩ := dp_tup h
  obtain ⟨gs, rfl, e, _⟩ := all_ints (P := fun _ => True) ha fun d hd => by
    obtain ⟨q, _, rfl⟩ := List.mem_map.mp hd
    exact ⟨_, rfl, trivial⟩
  rw [map_int_inj e]
  exact ⟨t, rfl, hs⟩
theorem roadD_dp {K : PySem.W.Frag} {H : Hp} {v : V} {goal : List Int} {n : Int} (h : Dp K H v (roadD goal n)) : ∃ t g, v = .ref t ∧ SqT K H t [.str "to", .ref g, .int n] ∧ SqT K H g (goal.map V.int) := by
  obtain ⟨t, xs, rfl, hs, ha⟩ := dp_tup h
  cases ha with
  | cons a1 ha =>
    cases ha with
    | cons a2 ha =>
      cases ha with
      | cons a3 ha =>
        cases ha
        cases a1
        cases a3
        obtain ⟨g, rfl, hg⟩ := encF_dp a2
        exact ⟨t, g, rfl, hs, hg⟩
theorem flat_ints : ∀ fs : List Int, flatDs (fs.map PyData.int) = true
  | [] => rfl
  | _ :: fs => by
    show (flatD (.int _) && flatDs (fs.map PyData.int)) = true
    rw [flat_ints fs]
    rfl
theorem flat_encF (fs : List Int) : flatD (encF fs) = true := flat_ints fs
theorem flat_road (go : List Int) (n : Int) : flatD (roadD go n) = true := by
  show (flatD (.str "to") && (flatD (encF go) && (flatD (.int n) && flatDs []))) = true
  rw [flat_encF]
  rfl
theorem flat_step (w : Str) (d : Int) (fs go : List Int) (n : Int) : flatD (stepD w d fs go n) = true := by
  show (flatD (.str w) && (flatD (.int d) && (flatD (encF fs) && (flatD (roadD go n) && flatDs [])))) = true
  rw [flat_encF, flat_road]
  rfl
theorem flat_arrive (fs : List Int) : flatD (arriveD fs) = true := by
  show (flatD (.str "arrive") && (flatD .none && (flatD (encF fs) && (flatD .none && flatDs [])))) = true
  rw [flat_encF]
  rfl
theorem stepD_dp {K : PySem.W.Frag} {H : Hp} {v : V} {w : Str} {d : Int} {fs go : List Int} {n : Int} (h : Dp K H v (stepD w d fs go n)) :
    ∃ t f r, v = .ref t ∧ SqT K H t [.str w, .int d, .ref f, .ref r] ∧ SqT K H f (fs.map V.int) ∧ Dp K H (.ref r) (roadD go n) := by
  obtain ⟨t, xs, rfl, hs, ha⟩ := dp_tup h
  cases ha with
  | cons a1 ha =>
    cases ha with
    | cons a2 ha =>
      cases ha with
      | cons a3 ha =>
        cases ha with
        | cons a4 ha =>
          cases ha
          cases a1
          cases a2
          obtain ⟨f, rfl, hf⟩ := encF_dp a3
          obtain ⟨r, g, rfl, _, _⟩ := roadD_dp a4
          exact ⟨t, f, r, rfl, hs, hf, a4⟩
def SmA (D W : Nat) (ds : List PyData) : Prop := okDs ds = true ∧ PyData.depthAll ds ≤ D ∧ PyData.weightAll ds ≤ W
theorem SmA.nil {D : Nat} : SmA D 0 [] := ⟨rfl, by simp [PyData.depthAll], by simp [PyData.weightAll]⟩
theorem SmA.cons {D W W' : Nat} {d : PyData} {ds : List PyData} (a : Sm D W d) (b : SmA D W' ds) : SmA D (W + 1 + W') (d :: ds) :=
  ⟨by simp [okDs, a.ok, b.1], by
    have := a.dp
    have := b.2.1
    simp only [PyData.depthAll]
    omega, by
    have := a.wt
    have := b.2.2
    simp only [PyData.weightAll]
    omega⟩
theorem SmA.tup {D W : Nat} {ds : List PyData} (b : SmA D W ds) : Sm (D + 1) W (.tuple ds) :=
  ⟨by simpa [okD] using b.1, by
    have := b.2.1
    simp only [PyData.depth]
    omega, by
    simp only [PyData.weight]
    exact b.2.2⟩
theorem sm_small {i : Int} (h : i.natAbs < 64) : Sm 0 6 (.int i) :=
  ⟨(sm_int (show i.natAbs < 10 ^ 12 by omega)).ok, by simp [PyData.depth], by
    simp only [PyData.weight]
    split
    · omega
    · rename_i q
      have q' : i.natAbs ≠ 0 := fun e => q (by simpa using e)
      have := (Nat.log2_lt q').mpr (show i.natAbs < 2 ^ 6 from h)
      omega⟩
theorem sm_encF {fs : List Int} (h : ∀ b ∈ fs, b.natAbs < 64) (hl : fs.length ≤ 25000) : Sm 1 200000 (encF fs) :=
  (Sm.tuple (D := 0) (W := 6) (m := 25000) (fun d hd => by
    obtain ⟨b, hb, rfl⟩ := List.mem_map.mp hd
    exact sm_small (h b hb)) (by rw [List.length_map]; exact hl)).mono (Nat.le_refl _) (by decide)
theorem sm_wd {w : Str} (h : w = "to" ∨ w = "leave" ∨ w = "enter" ∨ w = "arrive") : Sm 0 64 (.str w) := by
  rcases h with rfl | rfl | rfl | rfl <;> exact ⟨by decide +kernel, by decide +kernel, by decide +kernel⟩
theorem sm_non : Sm 0 64 .none := ⟨by decide +kernel, by decide +kernel, by decide +kernel⟩
theorem sm_road {go : List Int} {n : Int} (h : ∀ b ∈ go, b.natAbs < 64) (hl : go.length ≤ 25000) (hn : n.natAbs < 10 ^ 12) : Sm 2 200200 (roadD go n) :=
  (SmA.tup (D := 1) (((sm_wd (.inl rfl)).mono (by decide) (Nat.le_refl _) : Sm 1 64 _) |> fun a => SmA.cons a (SmA.cons (sm_encF h hl) (SmA.cons (((sm_int hn).mono (by decide) (Nat.le_refl _) : Sm 1 64 _)) SmA.nil)))).mono (Nat.le_refl _) (by decide)
theorem sm_step {w : Str} {d : Int} {fs go : List Int} {n : Int} (hw : w = "to" ∨ w = "leave" ∨ w = "enter" ∨ w = "arrive") (hd : d.natAbs < 10 ^ 12) (hf : ∀ b ∈ fs, b.natAbs < 64) (lf : fs.length ≤ 25000) (hg : ∀ b ∈ go, b.natAbs < 64) (lg : go.length ≤ 25000) (hn : n.natAbs < 10 ^ 12) :
    Sm 3 500000 (stepD w d fs go n) :=
  (SmA.tup (D := 2) (SmA.cons ((sm_wd hw).mono (by decide) (Nat.le_refl _)) (SmA.cons ((sm_int hd).mono (by decide) (Nat.le_refl _)) (SmA.cons ((sm_encF hf lf).mono (by decide) (Nat.le_refl _)) (SmA.cons (sm_road hg lg hn) SmA.nil))))).mono (Nat.le_refl _) (by decide)
theorem sm_arrive {fs : List Int} (hf : ∀ b ∈ fs, b.natAbs < 64) (lf : fs.length ≤ 25000) : Sm 3 500000 (arriveD fs) :=
  (SmA.tup (D := 2) (SmA.cons ((sm_wd (.inr (.inr (.inr rfl)))).mono (by decide) (Nat.le_refl _)) (SmA.cons (sm_non.mono (by decide) (Nat.le_refl _)) (SmA.cons ((sm_encF hf lf).mono (by decide) (Nat.le_refl _)) (SmA.cons (sm_non.mono (by decide) (Nat.le_refl _)) SmA.nil))))).mono (Nat.le_refl _) (by decide)
theorem eqv_ints : ∀ ns : List Int, PyData.eqvAll (ns.map PyData.int) (ns.map PyData.int) = true
  | [] => rfl
  | n :: ns => by
    show (PyData.eqv (.int n) (.int n) && PyData.eqvAll (ns.map PyData.int) (ns.map PyData.int)) = true
    rw [eqv_ints ns]
    show ((n == n) && true) = true
    simp
end K11

namespace K11
open PySem L2 Cm
def layStep (w : Int) (fs rest : List Int) : PyData := .tuple [.str "enter", .int w, encF fs, .tuple [.str "on", encF rest]]
def offStep (w : Int) (fs : List Int) : PyData := .tuple [.str "leave", .int w, encF fs, .tuple [.str "off"]]
def layD (es : Things) (below frames : List Int) : PyData :=
  match winds es frames with
  | [] => arriveD (below ++ frames)
  | p :: _ => layStep (1000 + p.2) (below ++ frames.take p.1.toNat) (frames.drop p.1.toNat)
def offD (es : Things) (below : List Int) : PyData :=
  match (winds es (below.drop (cutAll es below))).getLast? with
  | Option.none => arriveD (below.take (cutAll es below))
  | some p => offStep (2000 + p.2) (below.take (cutAll es below + p.1.toNat))
def spLay (K : PySem.W.Frag) : Sp := fun vs H Q _ => ∃ (a b d : Addr) (below frames : List Int) (es : Things) (kvs : List (Key × V)), vs = [.ref a, .ref b, .ref d] ∧ SqT K H a (below.map V.int) ∧ below.length ≤ 25000 ∧ Fr K H b d frames es kvs ∧
  ∀ (v : V) (H' : Hp), Same H H' → Dp K H' v (layD es below frames) → Q v H'
def spOff (K : PySem.W.Frag) : Sp := fun vs H Q _ => ∃ (a d : Addr) (below : List Int) (es : Things) (kvs : List (Key × V)), vs = [.ref a, .ref d] ∧ Fr K H a d below es kvs ∧
  ∀ (v : V) (H' : Hp), Same H H' → Dp K H' v (offD es below) → Q v H'
theorem dps_split {K : PySem.W.Frag} {H : Hp} : ∀ {as bs : List PyData} {xs : List V}, DpAll K H xs (as ++ bs) → ∃ xs1 xs2, xs = xs1 ++ xs2 ∧ DpAll K H xs1 as ∧ DpAll K H xs2 bs
  | [], bs, xs, h => ⟨[], xs, rfl, .nil, h⟩
  | a :: as, bs, _, .cons h t => by
    obtain ⟨x1, x2, rfl, g1, g2⟩ := dps_split t
    exact ⟨_ :: x1, x2, rfl, .cons h g1, g2⟩
section
variable {P : Program} {w : World} {K : PySem.W.Frag} {mg : Str → Option Value} {base : Heap}
--, level 2: 0 below | 1 frames | 2 things | 3 winds | 4 position | 5 birth
abbrev s_p_lay_on : Stmt := top 5
abbrev N_p_lay_on : List Str := ["below", "frames", "things", "winds", "position", "birth"]
theorem sc_p_lay_on : FnScope N_p_lay_on ["below", "frames", "things"] (defScope s_p_lay_on) := ⟨rfl, rfl, rfl, by decide +kernel, rfl, by decide +kernel, by decide +kernel⟩
theorem ok_lay_on (T : Txt mg) (c_p_winds_of : Cl P w K mg base 1 "winds_of" (spWindsT K)) (D : At K mg "lay_on" s_p_lay_on ["below", "frames", "things"]) : Cl P w K mg base 2 "lay_on" (spLay K) := by
  refine cl_of D sc_p_lay_on (fun vs H Q E h => ?_) fun f cdv A outer s H vs Q E hr h => ?_
  · obtain ⟨a, b, d, below, frames, es, kvs, rfl, _⟩ := h
    rfl
  · obtain ⟨a, b, d, below, frames, es, kvs, rfl, hb, lb, hf, k⟩ := h
    have hu := hu_of hr
    refine ⟨_, (pss_cons (ps_set (i := 0) sc_p_lay_on.nd rfl (Or.inl rfl) (pe_tupleOf (by rfl) T.tuple (pv 0)))
      (pss_cons (ps_set (i := 1) sc_p_lay_on.nd rfl (Or.inl rfl) (pe_tupleOf (by rfl) T.tuple (pv 1)))
      (pss_cons (ps_set (i := 3) sc_p_lay_on.nd rfl (Or.inl rfl) (pe_c c_p_winds_of hr (by decide) (by rfl) (pa_cons (pv 1) (pa_cons (pv 2) pa_nil))))
      (pss_cons (ps_if (pt_not (pt_truth (pv 3) (by intro _; rfl)))
        (pss_one (ps_ret (pe_tup (pa_cons pe_str (pa_cons pe_non (pa_cons (pe_op op_catA (pv 0) (pv 1)) (pa_cons pe_non pa_nil)))))))
        pss_nil)
      (pss_cons (ps_asg (pe_ix ix_tup (pv 3) pe_int (fun _ _ => rfl)) (pg_tup (by rfl) (pgs_cons (pg_name (i := 4) sc_p_lay_on.nd rfl (Or.inl rfl)) (pgs_cons (pg_name (i := 5) sc_p_lay_on.nd rfl (Or.inl rfl)) pgs_nil))))
      (pss_one (ps_ret (pe_tup (pa_cons pe_str (pa_cons (pe_ix ix_tup (pe_dget hu (pv 2) (pv 5) (fun _ _ => rfl)) pe_int (fun _ _ => rfl)) (pa_cons (pe_op op_catA (pv 0) (pe_slice sl_tupA (pv 1) po_none (po_some (pv 4)))) (pa_cons (pe_tup (pa_cons pe_str (pa_cons (pe_slice sl_tupA (pv 1) (po_some (pv 4)) po_none) pa_nil))) pa_nil)))))))))))), ?_⟩
    have lf := hf.len
    have sz : ∀ k : Nat, k ≤ 25000 → (below.map V.int).length + k ≤ sizeLine := fun k hk => by
      rw [List.length_map]
      exact Nat.le_trans (show below.length + k ≤ 50000 by omega) (by decide)
    refine ⟨_, rfl, .inr ⟨a, _, rfl, hb, ?_⟩⟩
    refine ⟨_, rfl, .inr ⟨b, _, rfl, hf.fr, ?_⟩⟩
    refine ⟨_, rfl, _, rfl, b, d, frames, es, kvs, rfl, hf, fun t xs H1 s1 ht hd => ?_⟩
    refine ⟨_, rfl, !xs.isEmpty, .inr (.inl ⟨xs, ht, rfl⟩), ?_⟩
    unfold layD at k
    cases hW : winds es frames with
    | nil =>
      rw [hW] at hd k
      cases hd
      refine iteT ⟨_, rfl, _, rfl, ?_⟩
      refine cat_any (sqt_same s1 hb) (sqt_same s1 hf.fr) (by have := sz frames.length lf; rwa [List.length_map (as := frames)]) fun t2 H2 s2 ht2 => ?_
      rw [← List.map_append] at ht2
      refine ⟨by show 4 ≤ sizeLine; decide, fun t3 ht3 => ?_⟩
      have s3 := same_new (o := .tup [.str "arrive", .non, .ref t2, .non]) ht3
      exact k _ _ ((s1.trans s2).trans s3) (.tup (.inl (.inl upd_same)) (.cons (.str _) (.cons .non (.cons (dp_encF (sqt_same s3 ht2)) (.cons .non .nil)))))
    | cons p r =>
      obtain ⟨m, e1, e2, e3, e4, _, _⟩ := wind_at (es := es) (fs := frames) (j := 0) (p := p) (by rw [hW]; rfl)
      rw [hW] at hd k
      obtain ⟨p1, b2⟩ := p
      cases (show p1 = (m : Int) from e1)
      cases hd with
      | @cons v xs' _ _ g1 g2 =>
        obtain ⟨u, rfl, hu1⟩ := dp_enc g1
        refine iteF ⟨_, rfl, t, _, _, _, rfl, rfl, ht, atI_nat (j := 0) rfl, u, _, rfl, hu1, rfl, _, _, rfl, _, _, rfl, rfl, ?_⟩
        have hin : b2 ∈ es.map (·.1) := hf.ins _ (List.mem_of_getElem? e3)
        obtain ⟨pw, gx, hpw⟩ := th_windAt (hf.th.same s1) hin e4
        refine ⟨_, rfl, _, rfl, d, _, rfl, gx, pw, _, _, _, rfl, rfl, hpw, rfl, _, rfl, _, rfl, _, rfl, _, rfl, ?_⟩
        refine sl_to (k := m) (sqt_same s1 hf.fr) (by rw [List.length_map]; omega) fun t3 H3 s3 ht3 => ?_
        rw [← List.map_take] at ht3
        refine cat_any (sqt_same (s1.trans s3) hb) ht3 (by rw [List.length_map (as := frames.take m)]; exact sz _ (by rw [List.length_take]; omega)) fun t4 H4 s4 ht4 => ?_
        rw [← List.map_append] at ht4
        refine ⟨_, rfl, _, rfl, _, rfl, ?_⟩
        have s14 := (s1.trans s3).trans s4
        refine sl_from (k := m) (sqt_same s14 hf.fr) (by rw [List.length_map]; omega) fun t5 H5 s5 ht5 => ?_
        rw [← List.map_drop] at ht5
        refine ⟨by show 2 ≤ sizeLine; decide, fun t6 ht6 => ⟨by show 4 ≤ sizeLine; decide, fun t7 ht7 => ?_⟩⟩
        have s6 := same_new (o := .tup [.str "on", .ref t5]) ht6
        have s7 := same_new (o := .tup [.str "enter", .int (1000 + b2), .ref t4, .ref t6]) ht7
        exact k _ _ (((s14.trans s5).trans s6).trans s7) (.tup (.inl (.inl upd_same)) (.cons (.str _) (.cons (.int _) (.cons (dp_encF (sqt_same ((s5.trans s6).trans s7) ht4))
          (.cons (.tup (.inl (.inl (s7 _ _ upd_same))) (.cons (.str _) (.cons (dp_encF (sqt_same (s6.trans s7) ht5)) .nil))) .nil)))))
--, level 2: 0 below | 1 things | 2 cut | 3 winds | 4 position | 5 birth
abbrev s_p_step_off : Stmt := top 8
abbrev N_p_step_off : List Str := ["below", "things", "cut", "winds", "position", "birth"]
theorem sc_p_step_off : FnScope N_p_step_off ["below", "things"] (defScope s_p_step_off) := ⟨rfl, rfl, rfl, by decide +kernel, rfl, by decide +kernel, by decide +kernel⟩
theorem ok_step_off (T : Txt mg) (c_p_winds_of : Cl P w K mg base 1 "winds_of" (spWindsT K)) (c_p_mark_cut : Cl P w K mg base 1 "mark_cut" (spNum K cutAll)) (D : At K mg "_step_off" s_p_step_off ["below", "things"]) : Cl P w K mg base 2 "_step_off" (spOff K) := by
  refine cl_of D sc_p_step_off (fun vs H Q E h => ?_) fun f cdv A outer s H vs Q E hr h => ?_
  · obtain ⟨a, d, below, es, kvs, rfl, _⟩ := h
    rfl
  · obtain ⟨a, d, below, es, kvs, rfl, hb, k⟩ := h
    have hu := hu_of hr
    refine ⟨_, (pss_cons (ps_set (i := 2) sc_p_step_off.nd rfl (Or.inl rfl) (pe_c c_p_mark_cut hr (by decide) (by rfl) (pa_cons (pv 0) (pa_cons (pv 1) pa_nil))))
      (pss_cons (ps_set (i := 3) sc_p_step_off.nd rfl (Or.inl rfl) (pe_c c_p_winds_of hr (by decide) (by rfl) (pa_cons (pe_slice sl_tupA (pv 0) (po_some (pv 2)) po_none) (pa_cons (pv 1) pa_nil))))
      (pss_cons (ps_if (pt_not (pt_truth (pv 3) (by intro _; rfl)))
        (pss_one (ps_ret (pe_tup (pa_cons pe_str (pa_cons pe_non (pa_cons (pe_slice sl_tupA (pv 0) po_none (po_some (pv 2))) (pa_cons pe_non pa_nil)))))))
        pss_nil)
      (pss_cons (ps_asg (pe_ix ix_tup (pv 3) (pe_un un_neg pe_int) (fun _ _ => rfl)) (pg_tup (by rfl) (pgs_cons (pg_name (i := 4) sc_p_step_off.nd rfl (Or.inl rfl)) (pgs_cons (pg_name (i := 5) sc_p_step_off.nd rfl (Or.inl rfl)) pgs_nil))))
      (pss_one (ps_ret (pe_tup (pa_cons pe_str (pa_cons (pe_ix ix_tup (pe_dget hu (pv 1) (pv 5) (fun _ _ => rfl)) pe_int (fun _ _ => rfl)) (pa_cons (pe_slice sl_tupA (pv 0) po_none (po_some (pe_op op_add (pv 2) (pv 4)))) (pa_cons (pe_tup (pa_cons pe_str pa_nil)) pa_nil))))))))))), ?_⟩
    have lb := hb.len
    have lc : cutAll es below ≤ below.length := cutM_le es below _
    refine ⟨_, rfl, _, rfl, a, d, below, es, kvs, rfl, hb, fun H1 s1 => ?_⟩
    unfold offD at k
    generalize cutAll es below = c at k lc
    refine ⟨_, rfl, _, rfl, _, rfl, ?_⟩
    refine sl_from (k := c) (sqt_same s1 hb.fr) (by rw [List.length_map]; omega) fun t2 H2 s2 ht2 => ?_
    rw [← List.map_drop] at ht2
    have s12 := s1.trans s2
    refine ⟨_, rfl, t2, d, below.drop c, es, kvs, rfl, ⟨ht2, hb.th.same s12, fun z hz => hb.ins z (List.mem_of_mem_drop hz), by rw [List.length_drop]; omega⟩, fun t xs H3 s3 ht hd => ?_⟩
    refine ⟨_, rfl, !xs.isEmpty, .inr (.inl ⟨xs, ht, rfl⟩), ?_⟩
    have s13 := s12.trans s3
    cases hW : (winds es (below.drop c)).getLast? with
    | none =>
      rw [hW] at k
      rw [List.getLast?_eq_none_iff] at hW
      rw [hW] at hd
      cases hd
      refine iteT ⟨_, rfl, _, rfl, _, rfl, ?_⟩
      refine sl_to (k := c) (sqt_same s13 hb.fr) (by rw [List.length_map]; omega) fun t4 H4 s4 ht4 => ?_
      rw [← List.map_take] at ht4
      refine ⟨by show 4 ≤ sizeLine; decide, fun t5 ht5 => ?_⟩
      have s5 := same_new (o := .tup [.str "arrive", .non, .ref t4, .non]) ht5
      exact k _ _ ((s13.trans s4).trans s5) (.tup (.inl (.inl upd_same)) (.cons (.str _) (.cons .non (.cons (dp_encF (sqt_same s5 ht4)) (.cons .non .nil)))))
    | some p =>
      rw [hW] at k
      obtain ⟨pre, epre⟩ := List.getLast?_eq_some_iff.mp hW
      obtain ⟨m, e1, e2, e3, e4, _, _⟩ := wind_at (es := es) (fs := below.drop c) (j := pre.length) (p := p) (by rw [epre]; simp)
      rw [epre, List.map_append] at hd
      obtain ⟨xs1, xs2, rfl, hd1, hd2⟩ := dps_split hd
      obtain ⟨p1, b2⟩ := p
      cases (show p1 = (m : Int) from e1)
      cases hd2 with
      | @cons v xs' _ _ g1 g2 =>
        cases g2
        obtain ⟨u, rfl, hu1⟩ := dp_enc g1
        have em : (!(xs1 ++ [V.ref u]).isEmpty) = true := by cases xs1 <;> rfl
        rw [em]
        refine iteF ⟨_, rfl, _, rfl, t, _, _, _, rfl, rfl, ht, atI_last _ _, u, _, rfl, hu1, rfl, _, _, rfl, _, _, rfl, rfl, ?_⟩
        have hin : b2 ∈ es.map (·.1) := hb.ins _ (List.mem_of_mem_drop (List.mem_of_getElem? e3))
        obtain ⟨pw, gx, hpw⟩ := th_windAt (hb.th.same s13) hin e4
        rw [List.length_drop] at e2
        refine ⟨_, rfl, _, rfl, d, _, rfl, gx, pw, _, _, _, rfl, rfl, hpw, rfl, _, rfl, _, rfl, _, rfl, _, _, rfl, rfl, _, rfl, ?_⟩
        refine sl_to (k := c + m) (sqt_same s13 hb.fr) (by rw [List.length_map]; omega) fun t4 H4 s4 ht4 => ?_
        rw [← List.map_take] at ht4
        refine ⟨by show 1 ≤ sizeLine; decide, fun t6 ht6 => ⟨by show 4 ≤ sizeLine; decide, fun t7 ht7 => ?_⟩⟩
        have s6 := same_new (o := .tup [.str "off"]) ht6
        have s7 := same_new (o := .tup [.str "leave", .int (2000 + b2), .ref t4, .ref t6]) ht7
        exact k _ _ (((s13.trans s4).trans s6).trans s7) (.tup (.inl (.inl upd_same)) (.cons (.str _) (.cons (.int _) (.cons (dp_encF (sqt_same (s6.trans s7) ht4))
          (.cons (.tup (.inl (.inl (s7 _ _ upd_same))) (.cons (.str _) .nil)) .nil)))))
end
end K11

namespace K11
open PySem L2 Cm
/-- what next_step gives on a road -/
def Road (es : Things) (below : List Int) (road out : PyData) : Prop :=
  (∃ (goal : List Int) (n : Nat), road = roadD goal (n : Nat) ∧ (∀ b ∈ goal, b ∈ es.map (·.1)) ∧ goal.length ≤ 25000 ∧ n ≤ (winds es goal).length ∧ out = toStep es (presM es below goal n) goal) ∨
  (∃ rest : List Int, road = .tuple [.str "on", encF rest] ∧ (∀ b ∈ rest, b ∈ es.map (·.1)) ∧ below.length + rest.length ≤ 25000 ∧ 1 ≤ rest.length ∧ out = layD es (below ++ rest.take 1) (rest.drop 1)) ∨
  (road = .tuple [.str "off"] ∧ out = offD es below) ∨ (road = .tuple [.str "out"] ∧ out = arriveD below)
def spNext (K : PySem.W.Frag) : Sp := fun vs H Q _ => ∃ (a r d : Addr) (below : List Int) (es : Things) (kvs : List (Key × V)) (road out : PyData), vs = [.ref a, .ref r, .ref d] ∧ Fr K H a d below es kvs ∧ Dp K H (.ref r) road ∧ Road es below road out ∧
  ∀ (v : V) (H' : Hp), Same H H' → Dp K H' v out → Q v H'
/-- what is walked: steps, each the next of the one ahead, an arrival last -/
def Chain (es : Things) : List PyData → Prop
  | [] => False
  | [d] => ∃ fs, d = arriveD fs
  | d :: e :: r => (∃ (w : Str) (deed : Int) (fs : List Int) (rd : List PyData), d = .tuple [.str w, .int deed, encF fs, .tuple rd] ∧ w ≠ "arrive" ∧ flatDs rd = true ∧ (∀ b ∈ fs, b ∈ es.map (·.1)) ∧ fs.length ≤ 25000 ∧ Road es fs (.tuple rd) e) ∧ Chain es (e :: r)
theorem chain_flat {es : Things} : ∀ {ls : List PyData}, Chain es ls → flatDs ls = true
  | [], h => h.elim
  | [d], ⟨fs, h⟩ => by
    rw [h]
    show (flatD (arriveD fs) && flatDs []) = true
    rw [flat_arrive]
    rfl
  | d :: e :: r, ⟨⟨w, deed, fs, rd, h, _, hf, _⟩, ht⟩ => by
    rw [h]
    show ((flatD (.str w) && (flatD (.int deed) && (flatD (encF fs) && (flatDs rd && flatDs [])))) && flatDs (e :: r)) = true
    rw [chain_flat ht, flat_encF, hf]
    rfl
theorem flatDs_mem : ∀ {ds : List PyData}, flatDs ds = true → ∀ d ∈ ds, flatD d = true
  | [], _, _, m => by cases m
  | a :: r, h, d, m => by
    have e : (flatD a && flatDs r) = true := h
    rw [Bool.and_eq_true] at e
    rcases List.mem_cons.mp m with rfl | m
    · exact e.1
    · exact flatDs_mem e.2 d m
def spWalked (K : PySem.W.Frag) : Sp := fun vs H Q _ => ∃ (v : V) (d : Addr) (es : Things) (kvs : List (Key × V)) (ls : List PyData) (l0 : PyData), vs = [v, .ref d, .int 70] ∧ ThAt K H d es kvs ∧ Dp K H v l0 ∧ Chain es (l0 :: ls) ∧ ls.length < 70 ∧
  ∀ (m : Addr) (xs : List V) (H' : Hp), Same H H' → H m = Option.none → H' m = some (.lst xs) → DpAll K H' xs (l0 :: ls) → Q (.ref m) H'
section
variable {P : Program} {w : World} {K : PySem.W.Frag} {mg : Str → Option Value} {base : Heap}
--, level 4: 0 below | 1 road | 2 things | 3 word
abbrev s_p_next_step : Stmt := top 6
abbrev N_p_next_step : List Str := ["below", "road", "things", "word"]
theorem sc_p_next_step : FnScope N_p_next_step ["below", "road", "things"] (defScope s_p_next_step) := ⟨rfl, rfl, rfl, by decide +kernel, rfl, by decide +kernel, by decide +kernel⟩
theorem ok_next (T : Txt mg) (c_p_step_to : Cl P w K mg base 3 "_step_to" (spStepTo K)) (c_p_lay_on : Cl P w K mg base 2 "lay_on" (spLay K)) (c_p_step_off : Cl P w K mg base 2 "_step_off" (spOff K)) (D : At K mg "next_step" s_p_next_step ["below", "road", "things"]) : Cl P w K mg base 4 "next_step" (spNext K) := by
  refine cl_of D sc_p_next_step (fun vs H Q E h => ?_) fun f cdv A outer s H vs Q E hr h => ?_
  · obtain ⟨a, r, d, below, es, kvs, road, out, rfl, _⟩ := h
    rfl
  · obtain ⟨a, r, d, below, es, kvs, road, out, rfl, hb, hrd, hro, k⟩ := h
    refine ⟨_, (pss_cons (ps_set (i := 0) sc_p_next_step.nd rfl (Or.inl rfl) (pe_tupleOf (by rfl) T.tuple (pv 0)))
      (pss_cons (ps_set (i := 3) sc_p_next_step.nd rfl (Or.inl rfl) (pe_ix ix_tup (pv 1) pe_int (fun _ _ => rfl)))
      (pss_cons (ps_if (pt_cmpR op_eq (pv 3) pe_str (nomark _))
        (pss_one (ps_ret (pe_c c_p_step_to hr (by decide) (by rfl) (pa_cons (pv 0) (pa_cons (pe_tupleOf (by rfl) T.tuple (pe_ix ix_tup (pv 1) pe_int (fun _ _ => rfl))) (pa_cons (pe_ix ix_tup (pv 1) pe_int (fun _ _ => rfl)) (pa_cons (pv 2) pa_nil)))))))
        pss_nil)
      (pss_cons (ps_if (pt_cmpR op_eq (pv 3) pe_str (nomark _))
        (pss_one (ps_ret (pe_c c_p_lay_on hr (by decide) (by rfl) (pa_cons (pe_op op_catA (pv 0) (pe_tupleOf (by rfl) T.tuple (pe_slice sl_tupA (pe_ix ix_tup (pv 1) pe_int (fun _ _ => rfl)) po_none (po_some pe_int)))) (pa_cons (pe_slice sl_tupA (pe_ix ix_tup (pv 1) pe_int (fun _ _ => rfl)) (po_some pe_int) po_none) (pa_cons (pv 2) pa_nil))))))
        pss_nil)
      (pss_cons (ps_if (pt_cmpR op_eq (pv 3) pe_str (nomark _))
        (pss_one (ps_ret (pe_c c_p_step_off hr (by decide) (by rfl) (pa_cons (pv 0) (pa_cons (pv 2) pa_nil)))))
        pss_nil)
      (pss_one (ps_ret (pe_tup (pa_cons pe_str (pa_cons pe_non (pa_cons (pv 0) (pa_cons pe_non pa_nil)))))))))))), ?_⟩
    refine ⟨_, rfl, .inr ⟨a, _, rfl, hb.fr, ?_⟩⟩
    rcases hro with ⟨goal, n, rfl, hin, hlen, hn, rfl⟩ | ⟨rest, rfl, hin, hlen, h1, rfl⟩ | ⟨rfl, rfl⟩ | ⟨rfl, rfl⟩
    · obtain ⟨t, g, e, ht, hg⟩ := roadD_dp hrd
      cases e
      refine ⟨_, rfl, r, _, _, _, rfl, rfl, ht, rfl, ?_⟩
      refine ⟨_, rfl, rfl, _, rfl, ?_⟩
      rw [decS, decide_eq_true rfl]
      refine iteT ⟨_, rfl, _, rfl, r, _, _, _, rfl, rfl, ht, rfl, .inr ⟨g, _, rfl, hg, ?_⟩⟩
      exact ⟨_, rfl, r, _, _, _, rfl, rfl, ht, rfl, _, rfl, a, g, d, below, goal, es, kvs, n, rfl, hb, ⟨hg, hb.th, hin, hlen⟩, hn, k⟩
    · obtain ⟨t, xs, e, ht, ha⟩ := dp_tup hrd
      cases e
      cases ha with
      | cons a1 ha =>
        cases ha with
        | cons a2 ha =>
          cases ha
          cases a1
          obtain ⟨g, rfl, hg⟩ := encF_dp a2
          refine ⟨_, rfl, r, _, _, _, rfl, rfl, ht, rfl, ?_⟩
          refine ⟨_, rfl, rfl, _, rfl, ?_⟩
          rw [decS, decide_eq_false (show ¬ ("on" : Str) = "to" by decide +kernel)]
          refine iteF ⟨_, rfl, rfl, _, rfl, ?_⟩
          rw [decS, decide_eq_true rfl]
          refine iteT ⟨_, rfl, _, rfl, r, _, _, _, rfl, rfl, ht, rfl, _, rfl, ?_⟩
          refine sl_to (k := 1) hg (by rw [List.length_map]; exact h1) fun t3 H3 s3 ht3 => ?_
          rw [← List.map_take] at ht3
          refine .inr ⟨t3, _, rfl, ht3, ?_⟩
          refine cat_any (sqt_same s3 hb.fr) ht3 (by rw [List.length_map, List.length_map, List.length_take]; exact Nat.le_trans (show below.length + min 1 rest.length ≤ 50000 by omega) (by decide)) fun t4 H4 s4 ht4 => ?_
          rw [← List.map_append] at ht4
          have s34 := s3.trans s4
          refine ⟨_, rfl, r, _, _, _, rfl, rfl, sqt_same s34 ht, rfl, _, rfl, ?_⟩
          refine sl_from (k := 1) (sqt_same s34 hg) (by rw [List.length_map]; exact h1) fun t5 H5 s5 ht5 => ?_
          rw [← List.map_drop] at ht5
          have s35 := s34.trans s5
          refine ⟨_, rfl, t4, t5, d, _, _, es, kvs, rfl, sqt_same s5 ht4, by rw [List.length_append, List.length_take]; omega, ⟨ht5, hb.th.same s35, fun z hz => hin z (List.mem_of_mem_drop hz), by rw [List.length_drop]; omega⟩, fun v H6 s6 hv => k v H6 (s35.trans s6) hv⟩
    · obtain ⟨t, xs, e, ht, ha⟩ := dp_tup hrd
      cases e
      cases ha with
      | cons a1 ha =>
        cases ha
        cases a1
        refine ⟨_, rfl, r, _, _, _, rfl, rfl, ht, rfl, ?_⟩
        refine ⟨_, rfl, rfl, _, rfl, ?_⟩
        rw [decS, decide_eq_false (show ¬ ("off" : Str) = "to" by decide +kernel)]
        refine iteF ⟨_, rfl, rfl, _, rfl, ?_⟩
        rw [decS, decide_eq_false (show ¬ ("off" : Str) = "on" by decide +kernel)]
        refine iteF ⟨_, rfl, rfl, _, rfl, ?_⟩
        rw [decS, decide_eq_true rfl]
        exact iteT ⟨_, rfl, _, rfl, a, d, below, es, kvs, rfl, hb, k⟩
    · obtain ⟨t, xs, e, ht, ha⟩ := dp_tup hrd
      cases e
      cases ha with
      | cons a1 ha =>
        cases ha
        cases a1
        refine ⟨_, rfl, r, _, _, _, rfl, rfl, ht, rfl, ?_⟩
        refine ⟨_, rfl, rfl, _, rfl, ?_⟩
        rw [decS, decide_eq_false (show ¬ ("out" : Str) = "to" by decide +kernel)]
        refine iteF ⟨_, rfl, rfl, _, rfl, ?_⟩
        rw [decS, decide_eq_false (show ¬ ("out" : Str) = "on" by decide +kernel)]
        refine iteF ⟨_, rfl, rfl, _, rfl, ?_⟩
        rw [decS, decide_eq_false (show ¬ ("out" : Str) = "off" by decide +kernel)]
        refine iteF ⟨_, rfl, by show 4 ≤ sizeLine; decide, fun t3 ht3 => ?_⟩
        have s3 := same_new (o := .tup [.str "arrive", .non, .ref a, .non]) ht3
        exact k _ _ s3 (.tup (.inl (.inl upd_same)) (.cons (.str _) (.cons .non (.cons (dp_encF (sqt_same s3 hb.fr)) (.cons .non .nil)))))
--, level 5: 0 _law_step | 1 _law_things_here | 2 _law_most | 3 _law_steps | 4 _law_k
abbrev s_l_walked : Stmt := top 21
abbrev N_l_walked : List Str := ["_law_step", "_law_things_here", "_law_most", "_law_steps", "_law_k"]
theorem sc_l_walked : FnScope N_l_walked ["_law_step", "_law_things_here", "_law_most"] (defScope s_l_walked) := ⟨rfl, rfl, rfl, by decide +kernel, rfl, by decide +kernel, by decide +kernel⟩
theorem len4 (x y z w : V) : (!decide (V.int ((([x, y, z, w] : List V).length : Nat) : Int) = V.int 4)) = false := by simp
theorem ok_walked (T : Txt mg) (hI : mg "isinstance" = none) (c_p_next_step : Cl P w K mg base 4 "next_step" (spNext K)) (D : At K mg "_law_walked" s_l_walked ["_law_step", "_law_things_here", "_law_most"]) : Cl P w K mg base 5 "_law_walked" (spWalked K) := by
  refine cl_of D sc_l_walked (fun vs H Q E h => ?_) fun f cdv A outer s H vs Q E hr h => ?_
  · obtain ⟨v, d, es, kvs, ls, l0, rfl, _⟩ := h
    rfl
  · obtain ⟨v, d, es, kvs, ls, l0, rfl, ht, hv, hc, hl, k⟩ := h
    refine ⟨_, (pss_cons (ps_set (i := 3) sc_l_walked.nd rfl (Or.inl rfl) (pe_lst pa_nil))
      (pss_cons (ps_for PassesOwn.never rfl (pi_range1 (by rfl) T.range (pa_cons (pv 2) pa_nil)) (pg_name (i := 4) sc_l_walked.nd rfl (Or.inl rfl))
        (pss_cons (ps_expr (pe_bm PySem.F.plainAttrs_list PySem.F.slot_list_append PySem.F.type_list_append mt_append (pv 3) (pa_cons (pv 0) pa_nil)))
        (pss_cons (ps_if (PW.pt (pw_or (pt_not (pt_val (pe_callB call_isi (by rfl) hI (by decide +kernel) (pa_cons (pv 0) (pa_cons (pe_bltn (v := .ty "tuple") (by rfl) T.tuple (by rfl) (show RelV (.ty "tuple") (.type "tuple") from rfl)) pa_nil))))) (pw_or (pt_cmpR op_ne (pe_callB call_len_seq (by rfl) T.len (by decide +kernel) (pa_cons (pv 0) pa_nil)) pe_int (nomark _)) (pw_or1 (pt_cmpR op_eq (pe_ix ix_tup (pv 0) pe_int (fun _ _ => rfl)) pe_str (nomark _))))))
          (pss_one ps_break)
          pss_nil)
        (pss_one (ps_set (i := 0) sc_l_walked.nd rfl (Or.inl rfl) (pe_c c_p_next_step hr (by decide) (by rfl) (pa_cons (pe_ix ix_tup (pv 0) pe_int (fun _ _ => rfl)) (pa_cons (pe_ix ix_tup (pv 0) pe_int (fun _ _ => rfl)) (pa_cons (pv 1) pa_nil)))))))))
      (pss_one (ps_ret (pv 3))))), ?_⟩
    refine ⟨Nat.zero_le _, fun o ho => ?_⟩
    have s0 := same_new (o := .lst []) ho
    refine ⟨_, rfl, _, rfl, by decide, by decide, ?_⟩
    refine for_it (walk_upto (n := (70 : Int).toNat)) (fun i σ H' => ∃ (v' : V) (v4 : Option V) (xs : List V) (done : List PyData) (c : PyData) (rest : List PyData), σ = [some v', some (.ref d), some (.int 70), some (.ref o), v4] ∧ Same H H' ∧ H' o = some (.lst xs) ∧ DpAll K H' xs done ∧
        l0 :: ls = done ++ c :: rest ∧ done.length = i ∧ Dp K H' v' c ∧ Chain es (c :: rest) ∧ flatDs done = true)
      ⟨v, none, [], [], l0, ls, rfl, s0, upd_same, .nil, rfl, rfl, dp_same s0 _ _ hv, hc, rfl⟩ (fun _ _ _ _ _ => trivial) ?_ ?_
    · rintro i x σ H0 H1 hi ⟨v', v4, xs, done, c, rest, rfl, s1, h1, hd1, els, hdl, hv1, hch, hfd⟩ ⟨rfl, rfl⟩
      have hxl : xs.length < sizeLine := by
        rw [DpAll.len hd1, hdl]
        exact Nat.lt_of_lt_of_le (show i < 70 from hi) (by decide)
      have hfc : flatD c = true := by
        have := chain_flat hch
        have e : (flatD c && flatDs rest) = true := this
        rw [Bool.and_eq_true] at e
        exact e.1
      refine ⟨_, rfl, .inl ⟨rfl, _, .inl (.inl h1)⟩, _, rfl, o, xs, v', rfl, rfl, h1, hxl, ?_⟩
      have kt : ∀ a ys, SqT K H1 a ys → SqT K (upd H1 o (.lst (xs ++ [v']))) a ys := fun a ys q => sqt_put h1 q
      have s2 := same_put (o := .lst (xs ++ [v'])) s1 ho
      have hv2 := dp_keep kt _ _ hfc hv1
      have hd2 := DpAll.snoc hv2 (dps_keep kt _ _ hfd hd1)
      have h2 : (upd H1 o (.lst (xs ++ [v']))) o = some (.lst (xs ++ [v'])) := upd_same
      generalize (upd H1 o (.lst (xs ++ [v']))) = H2 at s2 hv2 hd2 h2
      cases rest with
      | nil =>
        obtain ⟨fs, rfl⟩ := hch
        obtain ⟨t, ys, rfl, hs, ha⟩ := dp_tup hv2
        cases ha with
        | cons a1 ha =>
          cases ha with
          | cons a2 ha =>
            cases ha with
            | cons a3 ha =>
              cases ha with
              | cons a4 ha =>
                cases ha
                cases a1
                refine ⟨_, rfl, _, _, _, _, true, rfl, .ty "tuple", tyx_tup hs, kit_tup, true, rfl, ?_⟩
                refine iteF ⟨_, rfl, t, _, rfl, .inr hs, rfl, _, rfl, ?_⟩
                rw [len4]
                refine iteF ⟨_, rfl, t, _, _, _, rfl, rfl, hs, rfl, rfl, _, rfl, ?_⟩
                rw [decS, decide_eq_true rfl]
                refine iteT ?_
                exact ⟨_, rfl, k o _ H2 s2 ho h2 (by rw [els]; exact hd2)⟩
      | cons e r =>
        obtain ⟨⟨w, deed, fs, rd, rfl, hw, hfr, hin, hlen, hroad⟩, hch2⟩ := hch
        obtain ⟨t, ys, rfl, hs, ha⟩ := dp_tup hv2
        cases ha with
        | cons a1 ha =>
          cases ha with
          | cons a2 ha =>
            cases ha with
            | cons a3 ha =>
              cases ha with
              | cons a4 ha =>
                cases ha
                cases a1
                obtain ⟨g, rfl, hg⟩ := encF_dp a3
                obtain ⟨r', zs, rfl, _, _⟩ := dp_tup a4
                refine ⟨_, rfl, _, _, _, _, true, rfl, .ty "tuple", tyx_tup hs, kit_tup, true, rfl, ?_⟩
                refine iteF ⟨_, rfl, t, _, rfl, .inr hs, rfl, _, rfl, ?_⟩
                rw [len4]
                refine iteF ⟨_, rfl, t, _, _, _, rfl, rfl, hs, rfl, rfl, _, rfl, ?_⟩
                rw [decS, decide_eq_false hw]
                refine iteF ⟨_, rfl, t, _, _, _, rfl, rfl, hs, rfl, _, rfl, t, _, _, _, rfl, rfl, hs, rfl, _, rfl, g, r', d, fs, es, kvs, _, e, rfl, ⟨hg, ht.same s2, hin, hlen⟩, a4, hroad, fun v3 H3 s3 hv3 => ?_⟩
                refine ⟨v3, _, xs ++ [.ref t], done ++ [_], e, r, rfl, s2.trans s3, s3 _ _ h2, dps_same s3 _ _ hd2, by rw [els, List.append_assoc]; rfl, by rw [List.length_append, hdl]; rfl, hv3, hch2, flatDs_of _ fun z hz => ?_⟩
                rcases List.mem_append.mp hz with q | q
                · exact flatDs_mem hfd z q
                · cases List.mem_singleton.mp q
                  exact hfc
    · rintro σ H1 ⟨v', v4, xs, done, c, rest, rfl, s1, h1, hd1, els, hdl, hv1, hch, hfd⟩
      exfalso
      have := congrArg List.length els
      rw [List.length_append, List.length_cons, List.length_cons, hdl] at this
      have : (70 : Int).toNat = 70 := rfl
      omega
end
end K11

namespace K11
open PySem L2 Cm
/-! all steps of laying on, of taking off -/
def onL (es : Things) (below frames : List Int) : List PyData := (winds es frames).map (fun p => layStep (1000 + p.2) (below ++ frames.take p.1.toNat) (frames.drop p.1.toNat)) ++ [arriveD (below ++ frames)]
def offL (es : Things) (frames : List Int) : List PyData := ((winds es (frames.drop (cutAll es frames))).reverse.map fun p => offStep (2000 + p.2) (frames.take (cutAll es frames + p.1.toNat))) ++ [arriveD (frames.take (cutAll es frames))]
theorem windsF_shift (es : Things) (k : Nat) : ∀ (l : List Int) (j : Nat), windsF es (k + j) l = (windsF es j l).map fun p => (p.1 + (k : Int), p.2)
  | [], _ => rfl
  | b :: l, j => by
    show (if word es b = "wind" then [(((k + j : Nat) : Int), b)] else []) ++ windsF es (k + j + 1) l = ((if word es b = "wind" then [((j : Int), b)] else []) ++ windsF es (j + 1) l).map _
    rw [List.map_append, show k + j + 1 = k + (j + 1) by omega, windsF_shift es k l (j + 1)]
    by_cases h : word es b = "wind"
    · rw [if_pos h, if_pos h]
      show [(((k + j : Nat) : Int), b)] ++ _ = [((j : Int) + (k : Int), b)] ++ _
      rw [show ((k + j : Nat) : Int) = (j : Int) + (k : Int) by omega]
    · rw [if_neg h, if_neg h]
      rfl
theorem wind_first {es : Things} {fs : List Int} {p : Int × Int} {r : List (Int × Int)} (h : winds es fs = p :: r) :
    ∃ m : Nat, p.1 = (m : Int) ∧ m < fs.length ∧ fs[m]? = some p.2 ∧ word es p.2 = "wind" ∧ r = (winds es (fs.drop (m + 1))).map fun q => (q.1 + ((m + 1 : Nat) : Int), q.2) := by
  obtain ⟨m, e1, e2, e3, e4, e5, e6⟩ := wind_at (es := es) (fs := fs) (j := 0) (p := p) (by rw [h]; rfl)
  refine ⟨m, e1, e2, e3, e4, ?_⟩
  have e : windsF es 0 fs = windsF es 0 (fs.take (m + 1)) ++ windsF es (m + 1) (fs.drop (m + 1)) := by
    conv => lhs; rw [← List.take_append_drop (m + 1) fs]
    rw [windsF_app, List.length_take, Nat.min_eq_left (by omega), Nat.zero_add]
  rw [← winds_F, ← winds_F, h, e6, h] at e
  rw [winds_F es (fs.drop (m + 1)), ← windsF_shift es (m + 1) _ 0]
  show r = windsF es (m + 1) _
  have : p :: r = [p] ++ windsF es (m + 1) (fs.drop (m + 1)) := e
  exact (List.cons.inj this).2
theorem on_cons {es : Things} {below fs : List Int} {p : Int × Int} {r : List (Int × Int)} {m : Nat} (h : winds es fs = p :: r) (e1 : p.1 = (m : Int)) (e2 : m < fs.length) (er : r = (winds es (fs.drop (m + 1))).map fun q => (q.1 + ((m + 1 : Nat) : Int), q.2)) :
    onL es below fs = layStep (1000 + p.2) (below ++ fs.take m) (fs.drop m) :: onL es (below ++ fs.take (m + 1)) (fs.drop (m + 1)) := by
  unfold onL
  rw [h, List.map_cons, e1, er, List.map_map, List.cons_append]
  refine congrArg (List.cons _) ?_
  rw [List.append_assoc, List.take_append_drop]
  congr 1
  refine List.map_congr_left fun q hq => ?_
  rw [winds_F] at hq
  obtain ⟨i, _, h2, _, _⟩ := windsF_mem es _ 0 q hq
  have ei : (q.1 + ((m + 1 : Nat) : Int)).toNat = m + 1 + i := by omega
  have ej : q.1.toNat = i := by omega
  show layStep (1000 + q.2) (below ++ fs.take (q.1 + ((m + 1 : Nat) : Int)).toNat) (fs.drop (q.1 + ((m + 1 : Nat) : Int)).toNat) = layStep (1000 + q.2) ((below ++ fs.take (m + 1)) ++ (fs.drop (m + 1)).take q.1.toNat) ((fs.drop (m + 1)).drop q.1.toNat)
  rw [ei, ej, List.append_assoc, List.drop_drop, List.take_add]
theorem chain_on {es : Things} : ∀ (n : Nat) (below frames : List Int), frames.length ≤ n → (∀ b ∈ below, b ∈ es.map (·.1)) → (∀ b ∈ frames, b ∈ es.map (·.1)) → below.length + frames.length ≤ 25000 →
    Chain es (onL es below frames) ∧ ∃ tl, onL es below frames = layD es below frames :: tl
  | 0, below, frames, hn, _, _, _ => by
    have e : frames = [] := List.length_eq_zero_iff.mp (by omega)
    subst e
    exact ⟨⟨_, rfl⟩, [], rfl⟩
  | n + 1, below, frames, hn, hb, hf, hl => by
    unfold layD
    cases h : winds es frames with
    | nil =>
      have e : onL es below frames = [arriveD (below ++ frames)] := by
        unfold onL
        rw [h]
        rfl
      rw [e]
      exact ⟨⟨_, rfl⟩, [], rfl⟩
    | cons p r =>
      obtain ⟨m, e1, e2, e3, e4, er⟩ := wind_first h
      have ec := on_cons (below := below) h e1 e2 er
      have hd1 : ∀ b ∈ below ++ frames.take (m + 1), b ∈ es.map (·.1) := fun b q => by
        rcases List.mem_append.mp q with q | q
        · exact hb b q
        · exact hf b (List.mem_of_mem_take q)
      have hd2 : ∀ b ∈ frames.drop (m + 1), b ∈ es.map (·.1) := fun b q => hf b (List.mem_of_mem_drop q)
      have len1 : (frames.drop (m + 1)).length = frames.length - (m + 1) := List.length_drop ..
      have len2 : (below ++ frames.take (m + 1)).length = below.length + (m + 1) := by rw [List.length_append, List.length_take]; omega
      obtain ⟨c, tl, et⟩ := chain_on n (below ++ frames.take (m + 1)) (frames.drop (m + 1)) (by omega) hd1 hd2 (by omega)
      rw [ec, et]
      rw [et] at c
      refine ⟨⟨⟨"enter", 1000 + p.2, below ++ frames.take m, [.str "on", encF (frames.drop m)], rfl, by decide +kernel, ?_, fun b q => ?_, by rw [List.length_append, List.length_take]; omega, .inr (.inl ⟨frames.drop m, rfl, fun b q => hf b (List.mem_of_mem_drop q), ?_, ?_, ?_⟩)⟩, c⟩, layD es (below ++ frames.take (m + 1)) (frames.drop (m + 1)) :: tl, ?_⟩
      · show (flatD (.str "on") && (flatD (encF (frames.drop m)) && flatDs [])) = true
        rw [flat_encF]
        rfl
      · rcases List.mem_append.mp q with q | q
        · exact hb b q
        · exact hf b (List.mem_of_mem_take q)
      · rw [List.length_append, List.length_take, List.length_drop]
        omega
      · rw [List.length_drop]
        omega
      · rw [List.append_assoc, ← List.take_add, List.drop_drop]
      · show _ = layStep (1000 + p.2) (below ++ frames.take p.1.toNat) (frames.drop p.1.toNat) :: _
        rw [e1]
        rfl
theorem cutM_take (es : Things) (fs : List Int) (k : Nat) : ∀ n, n ≤ k → cutM es (fs.take k) n = cutM es fs n
  | 0, _ => rfl
  | n + 1, h => by
    unfold cutM
    have e : (fs.take k).getD n 0 = fs.getD n 0 := by
      rw [List.getD_eq_getElem?_getD, List.getD_eq_getElem?_getD, List.getElem?_take_of_lt (by omega)]
    rw [e, cutM_take es fs k n (by omega)]
theorem cutM_stop (es : Things) (fs : List Int) (k : Nat) : ∀ n, cutM es fs n ≤ k → k ≤ n → cutM es fs k = cutM es fs n
  | 0, _, h => by
    have : k = 0 := by omega
    rw [this]
  | n + 1, h1, h2 => by
    by_cases e : k = n + 1
    · rw [e]
    · have hk : k ≤ n := by omega
      unfold cutM at h1
      by_cases hw : word es (fs.getD n 0) = "mark"
      · rw [if_pos hw] at h1
        omega
      · rw [if_neg hw] at h1
        rw [cutM_stop es fs k n h1 hk]
        conv => rhs; unfold cutM
        rw [if_neg hw]
theorem cut_take {es : Things} {fs : List Int} {k : Nat} (h1 : cutAll es fs ≤ k) (h2 : k ≤ fs.length) : cutAll es (fs.take k) = cutAll es fs := by
  unfold cutAll at *
  rw [List.length_take, Nat.min_eq_left h2, cutM_take es fs k k (Nat.le_refl _), cutM_stop es fs k fs.length h1 h2]
theorem off_cons {es : Things} {fs : List Int} {p : Int × Int} (h : (winds es (fs.drop (cutAll es fs))).getLast? = some p) :
    ∃ m : Nat, p.1 = (m : Int) ∧ cutAll es fs + m < fs.length ∧ offL es fs = offStep (2000 + p.2) (fs.take (cutAll es fs + m)) :: offL es (fs.take (cutAll es fs + m)) ∧ (winds es ((fs.take (cutAll es fs + m)).drop (cutAll es (fs.take (cutAll es fs + m))))).length < (winds es (fs.drop (cutAll es fs))).length := by
  obtain ⟨pre, epre⟩ := List.getLast?_eq_some_iff.mp h
  obtain ⟨m, e1, e2, e3, e4, e5, _⟩ := wind_at (es := es) (fs := fs.drop (cutAll es fs)) (j := pre.length) (p := p) (by rw [epre]; simp)
  have lc : cutAll es fs ≤ fs.length := cutM_le es fs _
  rw [List.length_drop] at e2
  have ec : cutAll es (fs.take (cutAll es fs + m)) = cutAll es fs := cut_take (by omega) (by omega)
  have ed : (fs.take (cutAll es fs + m)).drop (cutAll es fs) = (fs.drop (cutAll es fs)).take m := by
    rw [List.drop_take]
    congr 1
    omega
  have ep : (winds es (fs.drop (cutAll es fs))).take pre.length = pre := by rw [epre, List.take_left]
  rw [ep] at e5
  refine ⟨m, e1, by omega, ?_, ?_⟩
  · unfold offL
    rw [ec, ed, e5, epre, List.reverse_append, List.map_append, List.append_assoc, List.take_take, Nat.min_eq_left (by omega)]
    show offStep (2000 + p.2) (fs.take (cutAll es fs + p.1.toNat)) :: (_ ++ _) = _
    rw [e1]
    refine congrArg (List.cons _) ?_
    rw [List.map_nil, List.nil_append]
    congr 1
    refine List.map_congr_left fun q hq => ?_
    have hq' : q ∈ winds es ((fs.drop (cutAll es fs)).take m) := by rw [e5]; exact List.mem_reverse.mp hq
    rw [winds_F] at hq'
    obtain ⟨i, h1, h2, _, _⟩ := windsF_mem es _ 0 q hq'
    rw [List.length_take] at h1
    have ei : q.1.toNat = i := by omega
    rw [ei, List.take_take, Nat.min_eq_left (by omega)]
  · rw [ec, ed, e5, epre, List.length_append]
    simp
theorem chain_off {es : Things} : ∀ (n : Nat) (fs : List Int), (winds es (fs.drop (cutAll es fs))).length ≤ n → (∀ b ∈ fs, b ∈ es.map (·.1)) → fs.length ≤ 25000 → Chain es (offL es fs) ∧ ∃ tl, offL es fs = offD es fs :: tl := by
  intro n
  induction n with
  | zero =>
    intro fs hn _ _
    have e : winds es (fs.drop (cutAll es fs)) = [] := List.length_eq_zero_iff.mp (by omega)
    unfold offL offD
    rw [e]
    exact ⟨⟨_, rfl⟩, [], rfl⟩
  | succ n ih =>
    intro fs hn hf hl
    cases h : (winds es (fs.drop (cutAll es fs))).getLast? with
    | none =>
      have e := List.getLast?_eq_none_iff.mp h
      unfold offL offD
      rw [e]
      exact ⟨⟨_, rfl⟩, [], rfl⟩
    | some p =>
      obtain ⟨m, e1, e2, e3, e4⟩ := off_cons h
      have ht : ∀ b ∈ fs.take (cutAll es fs + m), b ∈ es.map (·.1) := fun b q => hf b (List.mem_of_mem_take q)
      have hl2 : (fs.take (cutAll es fs + m)).length ≤ 25000 := by rw [List.length_take]; omega
      obtain ⟨c, tl, et⟩ := ih (fs.take (cutAll es fs + m)) (by omega) ht hl2
      have ed : offD es fs = offStep (2000 + p.2) (fs.take (cutAll es fs + m)) := by
        unfold offD
        rw [h]
        show offStep (2000 + p.2) (fs.take (cutAll es fs + p.1.toNat)) = _
        rw [e1]
        rfl
      rw [e3, et, ed]
      rw [et] at c
      exact ⟨⟨⟨"leave", 2000 + p.2, fs.take (cutAll es fs + m), [.str "off"], rfl, by decide +kernel, rfl, ht, hl2, .inr (.inr (.inl ⟨rfl, rfl⟩))⟩, c⟩, _, rfl⟩
theorem winds_from (es : Things) (fs : List Int) (c : Nat) (hc : c ≤ fs.length) : (winds es fs).filter (fun p => decide ((c : Int) ≤ p.1)) = (winds es (fs.drop c)).map fun p => (p.1 + (c : Int), p.2) := by
  have e : windsF es 0 fs = windsF es 0 (fs.take c) ++ windsF es c (fs.drop c) := by
    conv => lhs; rw [← List.take_append_drop c fs]
    rw [windsF_app, List.length_take, Nat.min_eq_left hc, Nat.zero_add]
  rw [winds_F, winds_F, e, List.filter_append]
  have h1 : (windsF es 0 (fs.take c)).filter (fun p => decide ((c : Int) ≤ p.1)) = [] := by
    refine List.filter_eq_nil_iff.mpr fun p hp => ?_
    obtain ⟨i, h1, h2, _, _⟩ := windsF_mem es _ 0 p hp
    rw [List.length_take] at h1
    simp
    omega
  have h2 : (windsF es c (fs.drop c)).filter (fun p => decide ((c : Int) ≤ p.1)) = windsF es c (fs.drop c) := by
    refine List.filter_eq_self.mpr fun p hp => ?_
    obtain ⟨i, h1, h2, _, _⟩ := windsF_mem es _ c p hp
    simp
    omega
  rw [h1, h2, List.nil_append]
  exact windsF_shift es c _ 0
end K11

namespace K11
open PySem L2 Cm
def spOn (K : PySem.W.Frag) : Sp := fun vs H Q _ => ∃ (a b d : Addr) (below frames : List Int) (es : Things) (kvs : List (Key × V)), vs = [.ref a, .ref b, .ref d] ∧ SqT K H a (below.map V.int) ∧ below.length ≤ 25000 ∧ Fr K H b d frames es kvs ∧
  ∀ (m : Addr) (xs : List V) (H' : Hp), Same H H' → H m = Option.none → H' m = some (.lst xs) → DpAll K H' xs (onL es below frames) → Q (.ref m) H'
def spOffL (K : PySem.W.Frag) : Sp := fun vs H Q _ => ∃ (a d : Addr) (frames : List Int) (es : Things) (kvs : List (Key × V)), vs = [.ref a, .ref d] ∧ Fr K H a d frames es kvs ∧
  ∀ (m : Addr) (xs : List V) (H' : Hp), Same H H' → H m = Option.none → H' m = some (.lst xs) → DpAll K H' xs (offL es frames) → Q (.ref m) H'
theorem flat_lay (w : Int) (fs r : List Int) : flatD (layStep w fs r) = true := by
  show (flatD (.str "enter") && (flatD (.int w) && (flatD (encF fs) && ((flatD (.str "on") && (flatD (encF r) && flatDs [])) && flatDs [])))) = true
  rw [flat_encF, flat_encF]
  rfl
theorem flat_off (w : Int) (fs : List Int) : flatD (offStep w fs) = true := by
  show (flatD (.str "leave") && (flatD (.int w) && (flatD (encF fs) && ((flatD (.str "off") && flatDs []) && flatDs [])))) = true
  rw [flat_encF]
  rfl
section
variable {P : Program} {w : World} {K : PySem.W.Frag} {mg : Str → Option Value} {base : Heap}
--, level 2: 0 _law_below | 1 _law_frames | 2 _law_things_here | 3 _law_winds | 4 _law_steps | 5 _law_at | 6 _law_birth
abbrev s_l_on_steps : Stmt := top 20
abbrev N_l_on_steps : List Str := ["_law_below", "_law_frames", "_law_things_here", "_law_winds", "_law_steps", "_law_at", "_law_birth"]
theorem sc_l_on_steps : FnScope N_l_on_steps ["_law_below", "_law_frames", "_law_things_here"] (defScope s_l_on_steps) := ⟨rfl, rfl, rfl, by decide +kernel, rfl, by decide +kernel, by decide +kernel⟩
theorem ok_on (c_l_winds_of : Cl P w K mg base 1 "_law_winds_of" (spWindsL K)) (D : At K mg "_law_on_steps" s_l_on_steps ["_law_below", "_law_frames", "_law_things_here"]) : Cl P w K mg base 2 "_law_on_steps" (spOn K) := by
  refine cl_of D sc_l_on_steps (fun vs H Q E h => ?_) fun f cdv A outer s H vs Q E hr h => ?_
  · obtain ⟨a, b, d, below, frames, es, kvs, rfl, _⟩ := h
    rfl
  · obtain ⟨a, b, d, below, frames, es, kvs, rfl, hb, lb, hf, k⟩ := h
    refine ⟨_, (pss_cons (ps_set (i := 3) sc_l_on_steps.nd rfl (Or.inl rfl) (pe_c c_l_winds_of hr (by decide) (by rfl) (pa_cons (pv 1) (pa_cons (pv 2) pa_nil))))
      (pss_cons (ps_setLc (i := 4) (own := [("_law_at", 5), ("_law_birth", 6)]) (g := gTup K 2 (gCons (gName 5) (gCons (gName 6) gNil))) rfl sc_l_on_steps.nd rfl rfl (sw_true rfl rfl rfl (by decide +kernel)) (pi_list (pv 3)) (blkOk_by (N := N_l_on_steps) (sc := defScope s_l_on_steps) (by decide +kernel))
      (fun _ _ _ _ _ => (pg_tup rfl (pgs_cons (pg_name (i := 5) sc_l_on_steps.nd rfl (Or.inl rfl)) (pgs_cons (pg_name (i := 6) sc_l_on_steps.nd rfl (Or.inl rfl)) pgs_nil))))
      (fun _ _ _ _ _ => pts_nil)
      (fun _ _ _ _ _ => (pe_tup (pa_cons pe_str (pa_cons (pe_op op_add pe_int (pv 6)) (pa_cons (pe_op (ko_catA (K := K)) (pv 0) (pe_slice (ks_tupA (K := K)) (pv 1) po_none (po_some (pv 5)))) (pa_cons (pe_tup (pa_cons pe_str (pa_cons (pe_slice (ks_tupA (K := K)) (pv 1) (po_some (pv 5)) po_none) pa_nil))) pa_nil)))))))
      (pss_one (ps_ret (pe_op op_cat (pv 4) (pe_lst (pa_cons (pe_tup (pa_cons pe_str (pa_cons pe_non (pa_cons (pe_op op_catA (pv 0) (pv 1)) (pa_cons pe_non pa_nil))))) pa_nil))))))), ?_⟩
    have lf := hf.len
    have wl := winds_len es frames
    have sz : ∀ k : Nat, k ≤ 25000 → (below.map V.int).length + k ≤ sizeLine := fun k hk => by
      rw [List.length_map]
      exact Nat.le_trans (show below.length + k ≤ 50000 by omega) (by decide)
    refine ⟨_, rfl, _, rfl, b, d, frames, es, kvs, rfl, hf, fun t xs H1 s1 ht0 ht hd => ?_⟩
    refine ⟨_, rfl, t, rfl, ⟨_, .inl (.inl ht)⟩, fun D1 hD1 => ?_⟩
    have lx : xs.length = (winds es frames).length := by have := DpAll.len hd; rwa [List.length_map] at this
    refine lc_data (K := K) (walk_list (xs := xs)) (fun j => ((winds es frames)[j]?).map fun p => layStep (1000 + p.2) (below ++ frames.take p.1.toNat) (frames.drop p.1.toNat)) hD1 (by omega) (fun H' s => s.seq (.inl (.inl ht))) (fun j _ z e => ?_) ?_ ?_
    · obtain ⟨q, _, rfl⟩ := Option.map_eq_some_iff.mp e
      exact flat_lay _ _ _
    · rintro j v H0 H2 hj s2 ⟨rfl, e2⟩ Q1 Q0 q1 q0
      obtain ⟨d1, g1, g2⟩ := DpAll.atV hd e2
      obtain ⟨⟨p1, b2⟩, ep, rfl⟩ := map_at g1
      obtain ⟨m, e1, e3, _, _, _, _⟩ := wind_at ep
      cases (show p1 = (m : Int) from e1)
      obtain ⟨t1, rfl, h1⟩ := dp_enc (dp_same s2 _ _ g2)
      refine ⟨t1, _, rfl, h1, rfl, _, _, rfl, _, _, rfl, rfl, rfl, ?_⟩
      have s12 := s1.trans s2
      refine iteT (B := Q0 H2) ⟨_, rfl, _, _, rfl, rfl, _, rfl, _, rfl, _, rfl, _, rfl, ?_⟩
      refine sl_to (k := m) (sqt_same s12 hf.fr) (by rw [List.length_map]; omega) fun t3 H3 s3 ht3 => ?_
      rw [← List.map_take] at ht3
      refine cat_any (sqt_same (s12.trans s3) hb) ht3 (by rw [List.length_map (as := frames.take m)]; exact sz _ (by rw [List.length_take]; omega)) fun t4 H4 s4 ht4 => ?_
      rw [← List.map_append] at ht4
      refine ⟨_, rfl, _, rfl, _, rfl, ?_⟩
      refine sl_from (k := m) (sqt_same ((s12.trans s3).trans s4) hf.fr) (by rw [List.length_map]; omega) fun t5 H5 s5 ht5 => ?_
      rw [← List.map_drop] at ht5
      refine ⟨by show 2 ≤ sizeLine; decide, fun t6 ht6 => ⟨by show 4 ≤ sizeLine; decide, fun t7 ht7 => ?_⟩⟩
      have s6 := same_new (o := .tup [.str "on", .ref t5]) ht6
      have s7 := same_new (o := .tup [.str "enter", .int (1000 + b2), .ref t4, .ref t6]) ht7
      refine q1 _ _ (layStep (1000 + b2) (below ++ frames.take m) (frames.drop m)) (by rw [ep]; rfl) ((((s3.trans s4).trans s5).trans s6).trans s7) (.tup (.inl (.inl upd_same)) (.cons (.str _) (.cons (.int _) (.cons (dp_encF (sqt_same ((s5.trans s6).trans s7) ht4))
          (.cons (.tup (.inl (.inl (s7 _ _ upd_same))) (.cons (.str _) (.cons (dp_encF (sqt_same (s6.trans s7) ht5)) .nil))) .nil)))))
    · intro H2 acc s2 hacc ha
      rw [lx, range_at (winds es frames) fun p => layStep (1000 + p.2) (below ++ frames.take p.1.toNat) (frames.drop p.1.toNat)] at ha
      have la := DpAll.len ha
      rw [List.length_map] at la
      have s12 := s1.trans s2
      refine ⟨_, rfl, _, rfl, _, rfl, ?_⟩
      refine cat_any (sqt_same s12 hb) (sqt_same s12 hf.fr) (by have := sz frames.length lf; rwa [List.length_map (as := frames)]) fun t3 H3 s3 ht3 => ?_
      rw [← List.map_append] at ht3
      refine ⟨by show 4 ≤ sizeLine; decide, fun t4 ht4 => ⟨by show 1 ≤ sizeLine; decide, fun L hL => ?_⟩⟩
      have s4 := same_new (o := .tup [.str "arrive", .non, .ref t3, .non]) ht4
      have s5 := same_new (o := .lst [.ref t4]) hL
      refine ⟨D1, L, acc, [.ref t4], rfl, rfl, ((s3.trans s4).trans s5) _ _ hacc, upd_same, Nat.le_trans (show acc.length + 1 ≤ 50000 by omega) (by decide), fun p hp => ?_⟩
      have s6 := same_new (o := .lst (acc ++ [.ref t4])) hp
      have sa := (s4.trans s5).trans s6
      refine k p _ _ ((s12.trans s3).trans sa) (((s12.trans s3).trans (s4.trans s5)).free hp) upd_same ?_
      exact DpAll.snoc (.tup (.inl (.inl ((s5.trans s6) _ _ upd_same))) (.cons (.str _) (.cons .non (.cons (dp_encF (sqt_same sa ht3)) (.cons .non .nil))))) (dps_same (s3.trans sa) _ _ ha)
end
end K11

namespace K11
open PySem L2 Cm
theorem range_bind {α β : Type} (xs : List α) (f : α → Option β) : (List.range xs.length).filterMap (fun i => (xs[i]?).bind f) = xs.filterMap f := by
  induction xs with
  | nil => rfl
  | cons a r ih =>
    rw [List.length_cons, List.range_succ_eq_map, List.filterMap_cons, List.filterMap_map, List.filterMap_cons]
    rw [show ((fun i => ((a :: r)[i]?).bind f) ∘ Nat.succ) = fun i => (r[i]?).bind f from rfl, ih]
    rfl
theorem filterMap_if {α β : Type} (q : α → Prop) [DecidablePred q] (f : α → β) : ∀ xs : List α, xs.filterMap (fun p => if q p then some (f p) else Option.none) = (xs.filter fun p => decide (q p)).map f
  | [] => rfl
  | a :: r => by
    rw [List.filterMap_cons, List.filter_cons]
    by_cases h : q a
    · rw [if_pos h, decide_eq_true h, if_pos rfl, filterMap_if q f r]
      rfl
    · rw [if_neg h, decide_eq_false h, if_neg (by decide), filterMap_if q f r]
section
variable {P : Program} {w : World} {K : PySem.W.Frag} {mg : Str → Option Value} {base : Heap}
--, level 2: 0 _law_frames | 1 _law_things_here | 2 _law_cut | 3 _law_at | 4 _law_birth | 5 _law_winds | 6 _law_steps
abbrev s_l_off_steps : Stmt := top 19
abbrev N_l_off_steps : List Str := ["_law_frames", "_law_things_here", "_law_cut", "_law_at", "_law_birth", "_law_winds", "_law_steps"]
theorem sc_l_off_steps : FnScope N_l_off_steps ["_law_frames", "_law_things_here"] (defScope s_l_off_steps) := ⟨rfl, rfl, rfl, by decide +kernel, rfl, by decide +kernel, by decide +kernel⟩
theorem ok_offL (T : Txt mg) (c_l_winds_of : Cl P w K mg base 1 "_law_winds_of" (spWindsL K)) (D : At K mg "_law_off_steps" s_l_off_steps ["_law_frames", "_law_things_here"]) : Cl P w K mg base 2 "_law_off_steps" (spOffL K) := by
  refine cl_of D sc_l_off_steps (fun vs H Q E h => ?_) fun f cdv A outer s H vs Q E hr h => ?_
  · obtain ⟨a, d, fs, es, kvs, rfl, _⟩ := h
    rfl
  · obtain ⟨a, d, fs, es, kvs, rfl, x, k⟩ := h
    have hu := hu_of hr
    refine ⟨_, (pss_cons (ps_set (i := 2) sc_l_off_steps.nd rfl (Or.inr rfl) (pe_callB (cr_max rfl) (by rfl) T.max (by decide +kernel) (pa_cons (pe_op op_cat (pe_lst (pa_cons pe_int pa_nil)) (pe_lc (own := [("_law_at", 3), ("_law_birth", 4)]) (g := gTup K 2 (gCons (gName 3) (gCons (gName 4) gNil))) rfl sc_l_off_steps.nd (pi_enumT (by rfl) T.enumerate (pa_cons (pv 0) pa_nil)) (blkOk_by (N := N_l_off_steps) (sc := defScope s_l_off_steps) (by decide +kernel))
      (fun _ _ _ _ _ => (pg_tup rfl (pgs_cons (pg_name (i := 3) sc_l_off_steps.nd rfl (Or.inl rfl)) (pgs_cons (pg_name (i := 4) sc_l_off_steps.nd rfl (Or.inl rfl)) pgs_nil))))
      (fun _ _ _ _ _ => (pts_one (pt_cmpR op_eq (pe_ix (kx_tup (K := K)) (pe_dget hu (pv 1) (pv 4) (fun _ _ => rfl)) pe_int (fun _ _ => rfl)) pe_str (nomark _))))
      (fun _ _ _ _ _ => (pe_op op_add (pv 3) pe_int)))) pa_nil)))
      (pss_cons (ps_set (i := 5) sc_l_off_steps.nd rfl (Or.inl rfl) (pe_revL (pe_lc (own := [("_law_at", 3), ("_law_birth", 4)]) (g := gTup K 2 (gCons (gName 3) (gCons (gName 4) gNil))) rfl sc_l_off_steps.nd (pi_list (pe_c c_l_winds_of hr (by decide) (by rfl) (pa_cons (pv 0) (pa_cons (pv 1) pa_nil)))) (blkOk_by (N := N_l_off_steps) (sc := defScope s_l_off_steps) (by decide +kernel))
      (fun _ _ _ _ _ => (pg_tup rfl (pgs_cons (pg_name (i := 3) sc_l_off_steps.nd rfl (Or.inl rfl)) (pgs_cons (pg_name (i := 4) sc_l_off_steps.nd rfl (Or.inl rfl)) pgs_nil))))
      (fun _ _ _ _ _ => (pts_one (pt_cmpR op_ge (pv 3) (pv 2) (nomark _))))
      (fun _ _ _ _ _ => (pe_tup (pa_cons (pv 3) (pa_cons (pv 4) pa_nil)))))))
      (pss_cons (ps_setLc (i := 6) (own := [("_law_at", 3), ("_law_birth", 4)]) (g := gTup K 2 (gCons (gName 3) (gCons (gName 4) gNil))) rfl sc_l_off_steps.nd rfl rfl (sw_true rfl rfl rfl (by decide +kernel)) (pi_list (pv 5)) (blkOk_by (N := N_l_off_steps) (sc := defScope s_l_off_steps) (by decide +kernel))
      (fun _ _ _ _ _ => (pg_tup rfl (pgs_cons (pg_name (i := 3) sc_l_off_steps.nd rfl (Or.inl rfl)) (pgs_cons (pg_name (i := 4) sc_l_off_steps.nd rfl (Or.inl rfl)) pgs_nil))))
      (fun _ _ _ _ _ => pts_nil)
      (fun _ _ _ _ _ => (pe_tup (pa_cons pe_str (pa_cons (pe_op op_add pe_int (pv 4)) (pa_cons (pe_slice (ks_tupA (K := K)) (pv 0) po_none (po_some (pv 3))) (pa_cons (pe_tup (pa_cons pe_str pa_nil)) pa_nil)))))))
      (pss_one (ps_ret (pe_op op_cat (pv 6) (pe_lst (pa_cons (pe_tup (pa_cons pe_str (pa_cons pe_non (pa_cons (pe_slice sl_tupA (pv 0) po_none (po_some (pv 2))) (pa_cons pe_non pa_nil))))) pa_nil)))))))), ?_⟩
    have hlen : (fs.map V.int).length = fs.length := List.length_map ..
    have xl := x.len
    refine ⟨by show 1 ≤ sizeLine; decide, fun p0 hp0 => ?_⟩
    have s0 := same_new (o := .lst [.int 0]) hp0
    refine ⟨_, rfl, a, _, rfl, sqt_same s0 x.fr, fun L hL => ?_⟩
    refine lc_data (K := K) (walk_enumT (xs := fs.map V.int)) (fun i => (markR es fs i).map PyData.int) hL (by omega) (fun H' s1 => sqt_same s1 (sqt_same s0 x.fr)) (fun i _ z e => ?_) ?_ ?_
    · obtain ⟨q, _, rfl⟩ := Option.map_eq_some_iff.mp e
      rfl
    · rintro i v H1 H2 hi s1 ⟨T1, x1, x2, rfl, hT, rfl, e1, e2⟩ Q1 Q0 q1 q0
      cases e1
      obtain ⟨b, eb, rfl⟩ := map_at e2
      have s2 := (s0.trans s1).trans (same_new (o := .tup [.int (i : Nat), .int b]) hT)
      obtain ⟨p, its, g1, g2, g3, _⟩ := (x.th.same s2).get (x.ins b (List.mem_of_getElem? eb))
      refine ⟨T1, _, rfl, .inl (.inl upd_same), rfl, _, _, rfl, _, _, rfl, rfl, rfl, ?_⟩
      refine ⟨_, rfl, _, rfl, d, _, rfl, g1, p, its, _, _, rfl, rfl, g2, g3, rfl, _, rfl, ?_⟩
      rw [decS]
      by_cases hw : word es b = "mark"
      · rw [decide_eq_true hw]
        refine iteT ⟨_, rfl, _, _, rfl, rfl, ?_⟩
        refine q1 _ _ (.int ((i : Int) + 1)) ?_ (same_new hT) (.int _)
        unfold markR
        rw [eb]
        show Option.map PyData.int (if word es b = "mark" then some ((i : Int) + 1) else none) = _
        rw [if_pos hw]
        rfl
      · rw [decide_eq_false hw]
        refine iteF (q0 _ ?_ (same_new hT))
        unfold markR
        rw [eb]
        show Option.map PyData.int (if word es b = "mark" then some ((i : Int) + 1) else none) = _
        rw [if_neg hw]
        rfl
    · intro H1 acc s1 hacc ha
      have e : (List.range (fs.map V.int).length).filterMap (fun i => (markR es fs i).map PyData.int) = (marks es fs).map PyData.int := by
        unfold marks
        rw [hlen, List.map_filterMap]
      rw [e] at ha
      obtain ⟨ns, rfl, e2, _⟩ := all_ints (P := fun _ => True) ha fun z hz => by
        obtain ⟨b, _, rfl⟩ := List.mem_map.mp hz
        exact ⟨b, rfl, trivial⟩
      have e3 := map_int_inj e2
      have hns : ns.length ≤ 25000 := by
        have h1 : (marks es fs).length ≤ fs.length := by
          unfold marks
          exact Nat.le_trans (List.length_filterMap_le _ _) (by rw [List.length_range]; exact Nat.le_refl _)
        rw [← e3]
        omega
      refine ⟨p0, L, _, _, rfl, rfl, s1 _ _ upd_same, hacc, ?_, fun q hq => ?_⟩
      · rw [List.length_map]
        exact Nat.le_trans (show 1 + ns.length ≤ 50000 by omega) (by decide)
      · refine ⟨q, 0 :: ns, rfl, .inl (.inl upd_same), by simp, fun m hm hle => ?_⟩
        rw [← e3] at hm hle
        rw [marks_max hm hle, show cutM es fs fs.length = cutAll es fs from rfl]
        have sA := (s0.trans s1).trans (same_new (o := .lst ([V.int 0] ++ ns.map V.int)) hq)
        have lc : cutAll es fs ≤ fs.length := cutM_le es fs _
        have ecf := winds_from es fs (cutAll es fs) lc
        unfold offL at k
        generalize cutAll es fs = c at k ecf lc ⊢
        generalize (upd H1 q (.lst ([V.int 0] ++ ns.map V.int))) = HA at sA ⊢
        have wl := winds_len es fs
        refine ⟨_, rfl, _, rfl, a, d, fs, es, kvs, rfl, x.same sA, fun t xs H2 s2 ht0 ht hd => ⟨t, rfl, ⟨_, .inl (.inl ht)⟩, fun D1 hD1 => ?_⟩⟩
        have lx : xs.length = (winds es fs).length := by have := DpAll.len hd; rwa [List.length_map] at this
        refine lc_data (K := K) (walk_list (xs := xs)) (fun j => ((winds es fs)[j]?).bind fun p => if (c : Int) ≤ p.1 then some (encP p) else Option.none) hD1 (by omega) (fun H' s => s.seq (.inl (.inl ht))) (fun j _ z e => ?_) ?_ ?_
        · obtain ⟨p, _, e2⟩ := Option.bind_eq_some_iff.mp e
          split at e2
          · cases e2
            rfl
          · cases e2
        · rintro j v H3 H4 hj s3 ⟨rfl, e2⟩ Q1 Q0 q1 q0
          obtain ⟨d1, g1, g2⟩ := DpAll.atV hd e2
          obtain ⟨p, ep, rfl⟩ := map_at g1
          obtain ⟨t1, rfl, h1⟩ := dp_enc (dp_same s3 _ _ g2)
          refine ⟨t1, _, rfl, h1, rfl, _, _, rfl, _, _, rfl, rfl, rfl, ?_⟩
          refine ⟨_, rfl, _, rfl, _, _, rfl, rfl, _, rfl, ?_⟩
          by_cases hw : (c : Int) ≤ p.1
          · rw [decide_eq_true hw]
            refine iteT ⟨_, rfl, _, rfl, by show 2 ≤ sizeLine; decide, fun t2 ht2 => q1 _ _ (encP p) ?_ (same_new ht2) (.tup (.inl (.inl upd_same)) (.cons (.int _) (.cons (.int _) .nil)))⟩
            rw [ep]
            exact if_pos hw
          · rw [decide_eq_false hw]
            refine iteF (q0 _ ?_ (Same.refl _))
            rw [ep]
            exact if_neg hw
        · intro H3 acc s3 hacc ha
          rw [lx, range_bind, filterMap_if, ecf] at ha
          refine ⟨D1, acc, rfl, .inl (.inl hacc), fun p1 hp1 => ?_⟩
          have s4 := same_new (o := .lst acc.reverse) hp1
          have hr := DpAll.rev (dps_same s4 _ _ ha)
          rw [← List.map_reverse] at hr
          have hws : ∀ z ∈ ((winds es (fs.drop c)).map fun p => (p.1 + (c : Int), p.2)).reverse, ∃ m : Nat, z.1 = (m : Int) ∧ m < fs.length := by
            intro z hz
            rw [List.mem_reverse, ← ecf] at hz
            have hz2 := (List.mem_filter.mp hz).1
            rw [winds_F] at hz2
            obtain ⟨i, h1, h2, _, _⟩ := windsF_mem es fs 0 z hz2
            exact ⟨i, by omega, h1⟩
          have eD : ((winds es (fs.drop c)).reverse.map fun p => offStep (2000 + p.2) (fs.take (c + p.1.toNat))) = (((winds es (fs.drop c)).map fun p => (p.1 + (c : Int), p.2)).reverse).map fun p => offStep (2000 + p.2) (fs.take p.1.toNat) := by
            rw [← List.map_reverse, List.map_map]
            refine List.map_congr_left fun p hp => ?_
            have hp' := List.mem_reverse.mp hp
            rw [winds_F] at hp'
            obtain ⟨i, h1, h2, _, _⟩ := windsF_mem es _ 0 p hp'
            show _ = offStep (2000 + p.2) (fs.take (p.1 + (c : Int)).toNat)
            rw [show (p.1 + (c : Int)).toNat = c + p.1.toNat by omega]
          rw [eD] at k
          have lw : (((winds es (fs.drop c)).map fun p => (p.1 + (c : Int), p.2)).reverse).length ≤ 25000 := by
            rw [List.length_reverse, List.length_map]
            have := winds_len es (fs.drop c)
            rw [List.length_drop] at this
            omega
          have sB := (sA.trans s2).trans (s3.trans s4)
          have frB : ∀ {H' : Hp}, Same (upd H3 p1 (.lst acc.reverse)) H' → Fr K H' a d fs es kvs := fun s => x.same (sB.trans s)
          have hp1' : (upd H3 p1 (.lst acc.reverse)) p1 = some (.lst acc.reverse) := upd_same
          generalize ((winds es (fs.drop c)).map fun p => (p.1 + (c : Int), p.2)).reverse = ws at hr hws k lw
          generalize (upd H3 p1 (.lst acc.reverse)) = HB at hr sB frB hp1'
          generalize acc.reverse = rs at hr hp1'
          have lr : rs.length = ws.length := by have := DpAll.len hr; rwa [List.length_map] at this
          refine ⟨_, rfl, p1, rfl, ⟨_, .inl (.inl hp1')⟩, fun D2 hD2 => ?_⟩
          refine lc_data (K := K) (walk_list (xs := rs)) (fun j => (ws[j]?).map fun p => offStep (2000 + p.2) (fs.take p.1.toNat)) hD2 (by omega) (fun H' s => s.seq (.inl (.inl hp1'))) (fun j _ z e => ?_) ?_ ?_
          · obtain ⟨q, _, rfl⟩ := Option.map_eq_some_iff.mp e
            exact flat_off _ _
          · rintro j v H5 H6 hj s5 ⟨rfl, e2⟩ Q1 Q0 q1 q0
            obtain ⟨d1, g1, g2⟩ := DpAll.atV hr e2
            obtain ⟨⟨z1, b2⟩, ep, rfl⟩ := map_at g1
            obtain ⟨m, e1, e3⟩ := hws _ (List.mem_of_getElem? ep)
            cases (show z1 = (m : Int) from e1)
            obtain ⟨t1, rfl, h1⟩ := dp_enc (dp_same s5 _ _ g2)
            refine ⟨t1, _, rfl, h1, rfl, _, _, rfl, _, _, rfl, rfl, rfl, ?_⟩
            refine iteT (B := Q0 H6) ⟨_, rfl, _, _, rfl, rfl, _, rfl, _, rfl, _, rfl, ?_⟩
            refine sl_to (k := m) (frB s5).fr (by rw [List.length_map]; omega) fun t3 H7 s7 ht3 => ?_
            rw [← List.map_take] at ht3
            refine ⟨by show 1 ≤ sizeLine; decide, fun t6 ht6 => ⟨by show 4 ≤ sizeLine; decide, fun t7 ht7 => ?_⟩⟩
            have s8 := same_new (o := .tup [.str "off"]) ht6
            have s9 := same_new (o := .tup [.str "leave", .int (2000 + b2), .ref t3, .ref t6]) ht7
            refine q1 _ _ (offStep (2000 + b2) (fs.take m)) (by rw [ep]; rfl) ((s7.trans s8).trans s9) (.tup (.inl (.inl upd_same)) (.cons (.str _) (.cons (.int _) (.cons (dp_encF (sqt_same (s8.trans s9) ht3))
                (.cons (.tup (.inl (.inl (s9 _ _ upd_same))) (.cons (.str _) .nil)) .nil)))))
          · intro H5 acc2 s5 hacc2 ha2
            rw [lr, range_at ws fun p => offStep (2000 + p.2) (fs.take p.1.toNat)] at ha2
            have la := DpAll.len ha2
            rw [List.length_map] at la
            refine ⟨_, rfl, _, rfl, _, rfl, _, rfl, ?_⟩
            refine sl_to (k := c) (frB s5).fr (by rw [List.length_map]; omega) fun t3 H7 s7 ht3 => ?_
            rw [← List.map_take] at ht3
            refine ⟨by show 4 ≤ sizeLine; decide, fun t4 ht4 => ⟨by show 1 ≤ sizeLine; decide, fun L2 hL2 => ?_⟩⟩
            have s8 := same_new (o := .tup [.str "arrive", .non, .ref t3, .non]) ht4
            have s9 := same_new (o := .lst [.ref t4]) hL2
            refine ⟨D2, L2, acc2, [.ref t4], rfl, rfl, ((s7.trans s8).trans s9) _ _ hacc2, upd_same, Nat.le_trans (show acc2.length + 1 ≤ 50000 by omega) (by decide), fun p hp => ?_⟩
            have s10 := same_new (o := .lst (acc2 ++ [.ref t4])) hp
            have sa := (s8.trans s9).trans s10
            refine k p _ _ (((sB.trans s5).trans s7).trans sa) (((sB.trans s5).trans (s7.trans (s8.trans s9))).free hp) upd_same ?_
            exact DpAll.snoc (.tup (.inl (.inl ((s9.trans s10) _ _ upd_same))) (.cons (.str _) (.cons .non (.cons (dp_encF (sqt_same sa ht3)) (.cons .non .nil))))) (dps_same (s7.trans sa) _ _ ha2)
end
end K11

namespace K11
open PySem L2 Cm
theorem SmA.lst {D W : Nat} {ds : List PyData} (b : SmA D W ds) : Sm (D + 1) W (.list ds) :=
  ⟨by simpa [okD] using b.1, by
    have := b.2.1
    simp only [PyData.depth]
    omega, by
    simp only [PyData.weight]
    exact b.2.2⟩
theorem SmA.all {D W m : Nat} {ds : List PyData} (h : ∀ d ∈ ds, Sm D W d) (hl : ds.length ≤ m) : SmA D (m * (W + 2)) ds := by
  obtain ⟨a, b, c⟩ := sm_all h
  exact ⟨a, b, Nat.le_trans c (Nat.mul_le_mul_right _ hl)⟩
theorem sm_enc1 {fs : List Int} (h : ∀ b ∈ fs, b.natAbs < 64) (hl : fs.length ≤ 100) : Sm 1 800 (encF fs) :=
  (Sm.tuple (D := 0) (W := 6) (m := 100) (fun d hd => by
    obtain ⟨b, hb, rfl⟩ := List.mem_map.mp hd
    exact sm_small (h b hb)) (by rw [List.length_map]; exact hl)).mono (Nat.le_refl _) (by decide)
theorem sm_w (w : Str) (h : w = "on" ∨ w = "off" ∨ w = "out" ∨ w = "to" ∨ w = "leave" ∨ w = "enter" ∨ w = "arrive") : Sm 0 64 (.str w) := by
  rcases h with rfl | rfl | rfl | rfl | rfl | rfl | rfl <;> exact ⟨by decide +kernel, by decide +kernel, by decide +kernel⟩
def okF (fs : List Int) : Prop := (∀ b ∈ fs, b.natAbs < 64) ∧ fs.length ≤ 100
theorem sm_layS {w : Int} {fs r : List Int} (hw : w.natAbs < 10 ^ 12) (hf : okF fs) (hr : okF r) : Sm 3 3000 (layStep w fs r) :=
  (SmA.tup (D := 2) (SmA.cons ((sm_w "enter" (by simp)).mono (by decide) (Nat.le_refl _)) (SmA.cons ((sm_int hw).mono (by decide) (Nat.le_refl _)) (SmA.cons ((sm_enc1 hf.1 hf.2).mono (by decide) (Nat.le_refl _))
    (SmA.cons (SmA.tup (D := 1) (SmA.cons ((sm_w "on" (by simp)).mono (by decide) (Nat.le_refl _)) (SmA.cons (sm_enc1 hr.1 hr.2) SmA.nil))) SmA.nil))))).mono (Nat.le_refl _) (by decide)
theorem sm_offS {w : Int} {fs : List Int} (hw : w.natAbs < 10 ^ 12) (hf : okF fs) : Sm 3 3000 (offStep w fs) :=
  (SmA.tup (D := 2) (SmA.cons ((sm_w "leave" (by simp)).mono (by decide) (Nat.le_refl _)) (SmA.cons ((sm_int hw).mono (by decide) (Nat.le_refl _)) (SmA.cons ((sm_enc1 hf.1 hf.2).mono (by decide) (Nat.le_refl _))
    (SmA.cons (SmA.tup (D := 1) (SmA.cons ((sm_w "off" (by simp)).mono (by decide) (Nat.le_refl _)) SmA.nil)) SmA.nil))))).mono (Nat.le_refl _) (by decide)
theorem sm_arrS {fs : List Int} (hf : okF fs) : Sm 3 3000 (arriveD fs) :=
  (SmA.tup (D := 2) (SmA.cons ((sm_w "arrive" (by simp)).mono (by decide) (Nat.le_refl _)) (SmA.cons (sm_non.mono (by decide) (Nat.le_refl _)) (SmA.cons ((sm_enc1 hf.1 hf.2).mono (by decide) (Nat.le_refl _)) (SmA.cons (sm_non.mono (by decide) (Nat.le_refl _)) SmA.nil))))).mono (Nat.le_refl _) (by decide)
theorem okF_take {fs : List Int} {k : Nat} (h : okF fs) : okF (fs.take k) := ⟨fun b hb => h.1 b (List.mem_of_mem_take hb), by have := h.2; rw [List.length_take]; omega⟩
theorem okF_drop {fs : List Int} {k : Nat} (h : okF fs) : okF (fs.drop k) := ⟨fun b hb => h.1 b (List.mem_of_mem_drop hb), by have := h.2; rw [List.length_drop]; omega⟩
theorem wind_okb {es : Things} {fs : List Int} {p : Int × Int} (h : p ∈ winds es fs) (hf : ∀ b ∈ fs, b.natAbs < 64) : p.2.natAbs < 64 := by
  rw [winds_F] at h
  obtain ⟨i, _, _, h3, _⟩ := windsF_mem es fs 0 p h
  exact hf _ (List.mem_of_getElem? h3)
theorem sm_onL {es : Things} {below fs : List Int} (hb : ∀ b ∈ below, b.natAbs < 64) (hf : ∀ b ∈ fs, b.natAbs < 64) (hl : below.length + fs.length ≤ 69) : SmA 3 300000 (onL es below fs) := by
  have okbf : okF (below ++ fs) := ⟨fun b q => by
    rcases List.mem_append.mp q with q | q
    · exact hb b q
    · exact hf b q, by rw [List.length_append]; omega⟩
  have h : SmA 3 (70 * (3000 + 2)) (onL es below fs) := SmA.all (fun d hd => by
    unfold onL at hd
    rcases List.mem_append.mp hd with q | q
    · obtain ⟨p, hp, rfl⟩ := List.mem_map.mp q
      have := wind_okb hp hf
      refine sm_layS (by omega) ⟨fun b q => ?_, by rw [List.length_append, List.length_take]; omega⟩ (okF_drop ⟨hf, by omega⟩)
      rcases List.mem_append.mp q with q | q
      · exact hb b q
      · exact hf b (List.mem_of_mem_take q)
    · cases List.mem_singleton.mp q
      exact sm_arrS okbf) (by
    unfold onL
    have := winds_len es fs
    rw [List.length_append, List.length_map]
    show _ + 1 ≤ _
    omega)
  exact ⟨h.1, h.2.1, Nat.le_trans h.2.2 (by decide)⟩
theorem sm_offL {es : Things} {fs : List Int} (hf : ∀ b ∈ fs, b.natAbs < 64) (hl : fs.length ≤ 69) : SmA 3 300000 (offL es fs) := by
  have h : SmA 3 (70 * (3000 + 2)) (offL es fs) := SmA.all (fun d hd => by
    unfold offL at hd
    rcases List.mem_append.mp hd with q | q
    · obtain ⟨p, hp, rfl⟩ := List.mem_map.mp q
      have := wind_okb (List.mem_reverse.mp hp) (fun b q => hf b (List.mem_of_mem_drop q))
      exact sm_offS (by omega) (okF_take ⟨hf, by omega⟩)
    · cases List.mem_singleton.mp q
      exact sm_arrS (okF_take ⟨hf, by omega⟩)) (by
    unfold offL
    have := winds_len es (fs.drop (cutAll es fs))
    rw [List.length_drop] at this
    rw [List.length_append, List.length_map, List.length_reverse]
    show _ + 1 ≤ _
    omega)
  exact ⟨h.1, h.2.1, Nat.le_trans h.2.2 (by decide)⟩
theorem onL_len (es : Things) (below fs : List Int) : (onL es below fs).length ≤ fs.length + 1 := by
  unfold onL
  have := winds_len es fs
  rw [List.length_append, List.length_map]
  show _ + 1 ≤ _
  omega
theorem offL_len (es : Things) (fs : List Int) : (offL es fs).length ≤ fs.length + 1 := by
  unfold offL
  have := winds_len es (fs.drop (cutAll es fs))
  rw [List.length_drop] at this
  rw [List.length_append, List.length_map, List.length_reverse]
  show _ + 1 ≤ _
  omega
/-- a step of a list of steps -/
def StepOk (es : Things) (z : PyData) : Prop := (∃ fs, z = arriveD fs) ∨ (∃ w fs, z = offStep w fs) ∨ (∃ w fs r, z = layStep w fs r ∧ (∀ b ∈ r, b ∈ es.map (·.1)) ∧ 1 ≤ r.length ∧ r.length ≤ 50)
theorem onL_ok {es : Things} {below fs : List Int} (hf : ∀ b ∈ fs, b ∈ es.map (·.1)) (hl : fs.length ≤ 50) : ∀ z ∈ onL es below fs, StepOk es z := by
  intro z hz
  unfold onL at hz
  rcases List.mem_append.mp hz with q | q
  · obtain ⟨p, hp, rfl⟩ := List.mem_map.mp q
    rw [winds_F] at hp
    obtain ⟨i, h1, h2, _, _⟩ := windsF_mem es fs 0 p hp
    refine .inr (.inr ⟨_, _, _, rfl, fun b hb => hf b (List.mem_of_mem_drop hb), ?_, ?_⟩)
    · rw [List.length_drop]
      omega
    · rw [List.length_drop]
      omega
  · cases List.mem_singleton.mp q
    exact .inl ⟨_, rfl⟩
theorem offL_ok {es : Things} {fs : List Int} : ∀ z ∈ offL es fs, StepOk es z := by
  intro z hz
  unfold offL at hz
  rcases List.mem_append.mp hz with q | q
  · obtain ⟨p, hp, rfl⟩ := List.mem_map.mp q
    exact .inr (.inl ⟨_, _, rfl⟩)
  · cases List.mem_singleton.mp q
    exact .inl ⟨_, rfl⟩
theorem stepOk_flat {es : Things} {z : PyData} (h : StepOk es z) : flatD z = true := by
  rcases h with ⟨fs, rfl⟩ | ⟨w, fs, rfl⟩ | ⟨w, fs, r, rfl, _⟩
  · exact flat_arrive _
  · exact flat_off _ _
  · exact flat_lay _ _ _
theorem dps_in {K : PySem.W.Frag} {H : Hp} : ∀ {xs : List V} {ds : List PyData}, DpAll K H xs ds → ∀ v ∈ xs, ∃ z ∈ ds, Dp K H v z
  | _, _, .nil, v, m => by cases m
  | _, _, .cons h t, v, m => by
    rcases List.mem_cons.mp m with rfl | m
    · exact ⟨_, List.mem_cons_self, h⟩
    · obtain ⟨z, hz, hv⟩ := dps_in t v m
      exact ⟨z, List.mem_cons_of_mem _ hz, hv⟩
theorem dp4 {K : PySem.W.Frag} {H : Hp} {v : V} {a b c d : PyData} (h : Dp K H v (.tuple [a, b, c, d])) : ∃ t w x y z, v = .ref t ∧ SqT K H t [w, x, y, z] ∧ Dp K H w a ∧ Dp K H x b ∧ Dp K H y c ∧ Dp K H z d := by
  obtain ⟨t, xs, rfl, hs, ha⟩ := dp_tup h
  cases ha with
  | cons a1 ha =>
    cases ha with
    | cons a2 ha =>
      cases ha with
      | cons a3 ha =>
        cases ha with
        | cons a4 ha =>
          cases ha
          exact ⟨t, _, _, _, _, rfl, hs, a1, a2, a3, a4⟩
def spElse (K : PySem.W.Frag) : Sp := fun vs H Q _ => ∃ (h c d L a : Addr) (es : Things) (kvs : List (Key × V)) (n : Nat) (xs : List V) (ls : List PyData) (ot : List Int), vs = [.ref h, .ref d, .ref L, .ref a] ∧ Hand H h c ∧ H L = some (.lst xs) ∧ L ≠ h ∧ DpAll K H xs ls ∧ (∀ z ∈ ls, StepOk es z) ∧ ls ≠ [] ∧ ls.length ≤ 100 ∧
  Fr K H a d ot es kvs ∧ ot.length ≤ 15 ∧ es.map (·.1) = births n ∧ n ≤ 60 ∧ ∀ H', Kh h H H' → Hand H' h c → Q (.bl true) H'
section
variable {P : Program} {w : World} {K : PySem.W.Frag} {mg : Str → Option Value} {base : Heap}
--, level 6: 0 _law_hand_here | 1 _law_things_here | 2 _law_steps | 3 _law_other | 4 _law_word | 5 _law_deed | 6 _law_frames | 7 _law_road | 8 _law_told | 9 _law_laid
abbrev s_l_elsewhere : Stmt := top 22
abbrev N_l_elsewhere : List Str := ["_law_hand_here", "_law_things_here", "_law_steps", "_law_other", "_law_word", "_law_deed", "_law_frames", "_law_road", "_law_told", "_law_laid"]
theorem sc_l_elsewhere : FnScope N_l_elsewhere ["_law_hand_here", "_law_things_here", "_law_steps", "_law_other"] (defScope s_l_elsewhere) := ⟨rfl, rfl, rfl, by decide +kernel, rfl, by decide +kernel, by decide +kernel⟩
theorem ok_else (T : Txt mg) (c_l_pick : Cl P w K mg base 3 "_law_pick" (spPick K)) (c_l_walked : Cl P w K mg base 5 "_law_walked" (spWalked K)) (c_p_next_step : Cl P w K mg base 4 "next_step" (spNext K)) (c_l_off_steps : Cl P w K mg base 2 "_law_off_steps" (spOffL K)) (c_l_on_steps : Cl P w K mg base 2 "_law_on_steps" (spOn K))
    (D : At K mg "_law_elsewhere" s_l_elsewhere ["_law_hand_here", "_law_things_here", "_law_steps", "_law_other"]) : ClG P w K mg base 6 "_law_elsewhere" (spElse K) := by
  refine clG_of D sc_l_elsewhere (fun vs H Q E h => ?_) fun f cdv A outer s H vs Q E hgd hr h => ?_
  · obtain ⟨h, c, d, L, a, es, kvs, n, xs, ls, ot, rfl, _⟩ := h
    rfl
  · obtain ⟨h, c, d, L, a, es, kvs, n, xs, ls, ot, rfl, hh, hL, nLh, hd, hok, hne, hll, ho, lo, hk, hn, k⟩ := h
    refine ⟨_, (pss_cons (ps_asg (pe_c c_l_pick hr (by decide) (by rfl) (pa_cons (pv 0) (pa_cons (pv 2) pa_nil))) (pg_tup (by rfl) (pgs_cons (pg_name (i := 4) sc_l_elsewhere.nd rfl (Or.inl rfl)) (pgs_cons (pg_name (i := 5) sc_l_elsewhere.nd rfl (Or.inl rfl)) (pgs_cons (pg_name (i := 6) sc_l_elsewhere.nd rfl (Or.inl rfl)) (pgs_cons (pg_name (i := 7) sc_l_elsewhere.nd rfl (Or.inl rfl)) pgs_nil))))))
      (pss_cons (ps_if (pt_cmpR op_eq (pv 4) pe_str (nomark _))
        (pss_one (ps_ret pe_bl))
        pss_nil)
      (pss_cons (ps_set (i := 8) sc_l_elsewhere.nd rfl (Or.inl rfl) (pe_c c_l_walked hr (by decide) (by rfl) (pa_cons (pe_c c_p_next_step hr (by decide) (by rfl) (pa_cons (pv 3) (pa_cons (pv 7) (pa_cons (pv 1) pa_nil)))) (pa_cons (pv 1) (pa_cons pe_int pa_nil)))))
      (pss_cons (ps_if (pt_cmpR op_eq (pv 4) pe_str (nomark _))
        (pss_one (ps_ret (pe_cmpR op_eq (pe_callB (call_reprD hgd hr.units) (by rfl) T.repr (by decide +kernel) (pa_cons (pv 8) pa_nil)) (pe_callB (call_reprD hgd hr.units) (by rfl) T.repr (by decide +kernel) (pa_cons (pe_c c_l_off_steps hr (by decide) (by rfl) (pa_cons (pv 3) (pa_cons (pv 1) pa_nil))) pa_nil)) (nomark _))))
        pss_nil)
      (pss_cons (ps_set (i := 9) sc_l_elsewhere.nd rfl (Or.inl rfl) (pe_ix ix_tup (pv 7) pe_int (fun _ _ => rfl)))
      (pss_one (ps_ret (pe_cmpR op_eq (pe_callB (call_reprD hgd hr.units) (by rfl) T.repr (by decide +kernel) (pa_cons (pv 8) pa_nil)) (pe_callB (call_reprD hgd hr.units) (by rfl) T.repr (by decide +kernel) (pa_cons (pe_c c_l_on_steps hr (by decide) (by rfl) (pa_cons (pe_op op_catA (pv 3) (pe_slice sl_tupA (pv 9) po_none (po_some pe_int))) (pa_cons (pe_slice sl_tupA (pv 9) (po_some pe_int) po_none) (pa_cons (pv 1) pa_nil)))) pa_nil)) (nomark _))))))))), ?_⟩
    have lx := DpAll.len hd
    have hb9 : ∀ b ∈ births n, b.natAbs < 64 := fun b hb => by
      have := births_mem.mp hb
      omega
    have hk9 : ∀ b, b ∈ es.map (·.1) → b.natAbs < 64 := fun b hb => hb9 b (by rw [← hk]; exact hb)
    have ho9 : ∀ b ∈ ot, b.natAbs < 64 := fun b hb => hk9 b (ho.ins b hb)
    have dnh : ¬ d = h := hh.ne (fun ys e => by rw [ho.th.at_] at e; cases e)
    refine ⟨_, rfl, _, rfl, h, c, L, xs, rfl, hh, .inl ⟨.inl (.inl hL), nLh⟩, fun e => ?_, by omega, fun v H1 hv k1 hh1 => ?_⟩
    · rw [e] at hd
      cases hd
      exact hne rfl
    obtain ⟨z, hz, hvz⟩ := dps_in hd v hv
    have hzo := hok z hz
    have hvz1 := dp_keep (fun _ _ q => k1.tup q) _ _ (stepOk_flat hzo) hvz
    have ho1 : Fr K H1 a d ot es kvs := ⟨k1.tup ho.fr, ho.th.kp k1 dnh, ho.ins, ho.len⟩
    have teq : ∀ x : V, decide (x = x) = true := fun x => by simp
    rcases hzo with ⟨fs, rfl⟩ | ⟨w0, fs, rfl⟩ | ⟨w0, fs, rs, rfl, hri, hr1, hr2⟩
    · obtain ⟨t, a1, a2, a3, a4, rfl, hs, b1, b2, b3, b4⟩ := dp4 hvz1
      cases b1
      refine ⟨t, _, rfl, hs, rfl, _, _, rfl, _, _, rfl, _, _, rfl, _, _, rfl, rfl, ?_⟩
      refine ⟨_, rfl, rfl, _, rfl, ?_⟩
      rw [decS, decide_eq_true rfl]
      exact iteT (k H1 k1 hh1)
    · obtain ⟨t, a1, a2, a3, a4, rfl, hs, b1, b2, b3, b4⟩ := dp4 hvz1
      cases b1
      obtain ⟨r, ys, rfl, _, _⟩ := dp_tup b4
      refine ⟨t, _, rfl, hs, rfl, _, _, rfl, _, _, rfl, _, _, rfl, _, _, rfl, rfl, ?_⟩
      refine ⟨_, rfl, rfl, _, rfl, ?_⟩
      rw [decS, decide_eq_false (show ¬ ("leave" : Str) = "arrive" by decide +kernel)]
      refine iteF ⟨_, rfl, _, rfl, _, rfl, a, r, d, ot, es, kvs, _, _, rfl, ho1, b4, .inr (.inr (.inl ⟨rfl, rfl⟩)), fun v2 H2 s2 hv2 => ?_⟩
      obtain ⟨ch, tl, et⟩ := chain_off (es := es) _ ot (Nat.le_refl _) ho.ins ho.len
      have ln := offL_len es ot
      have sm := SmA.lst (sm_offL (es := es) ho9 (by omega))
      rw [et] at ch ln
      rw [List.length_cons] at ln
      refine ⟨_, rfl, v2, d, es, kvs, tl, _, rfl, ho1.th.same s2, hv2, ch, by omega, fun m ys2 H3 s3 _ hm hd3 => ?_⟩
      rw [← et] at hd3
      refine ⟨_, rfl, rfl, _, rfl, ?_⟩
      rw [decS, decide_eq_true rfl]
      have r1 := sm.rok (by decide) (by decide) (K := K) (H := H3) (x := .ref m) (.inl (.lst (.inl (.inl hm)) hd3))
      refine iteT ⟨_, rfl, _, _, rfl, r1.1, r1.2.1, r1.2.2.1, r1.2.2.2, ?_⟩
      have s23 := s2.trans s3
      refine ⟨_, rfl, _, rfl, a, d, ot, es, kvs, rfl, ho1.same s23, fun m2 ys3 H4 s4 _ hm2 hd4 => ?_⟩
      have r2 := sm.rok (by decide) (by decide) (K := K) (H := H4) (x := .ref m2) (.inl (.lst (.inl (.inl hm2)) hd4))
      refine ⟨_, _, rfl, r2.1, r2.2.1, r2.2.2.1, r2.2.2.2, rfl, ?_⟩
      rw [teq]
      exact k _ (k1.trans (hh1.kh (s23.trans s4))) (hh1.same (s23.trans s4))
    · obtain ⟨t, a1, a2, a3, a4, rfl, hs, b1, b2, b3, b4⟩ := dp4 hvz1
      cases b1
      obtain ⟨r, ys, rfl, hrs, har⟩ := dp_tup b4
      refine ⟨t, _, rfl, hs, rfl, _, _, rfl, _, _, rfl, _, _, rfl, _, _, rfl, rfl, ?_⟩
      refine ⟨_, rfl, rfl, _, rfl, ?_⟩
      rw [decS, decide_eq_false (show ¬ ("enter" : Str) = "arrive" by decide +kernel)]
      refine iteF ⟨_, rfl, _, rfl, _, rfl, a, r, d, ot, es, kvs, _, _, rfl, ho1, b4, .inr (.inl ⟨rs, rfl, hri, by omega, hr1, rfl⟩), fun v2 H2 s2 hv2 => ?_⟩
      have hin1 : ∀ b ∈ ot ++ rs.take 1, b ∈ es.map (·.1) := fun b q => by
        rcases List.mem_append.mp q with q | q
        · exact ho.ins b q
        · exact hri b (List.mem_of_mem_take q)
      have hin2 : ∀ b ∈ rs.drop 1, b ∈ es.map (·.1) := fun b q => hri b (List.mem_of_mem_drop q)
      have ll1 : (ot ++ rs.take 1).length ≤ 16 := by rw [List.length_append, List.length_take]; omega
      have ll2 : (rs.drop 1).length ≤ 50 := by rw [List.length_drop]; omega
      obtain ⟨ch, tl, et⟩ := chain_on (es := es) _ (ot ++ rs.take 1) (rs.drop 1) (Nat.le_refl _) hin1 hin2 (by omega)
      have ln := onL_len es (ot ++ rs.take 1) (rs.drop 1)
      have sm := SmA.lst (sm_onL (es := es) (fun b q => hk9 b (hin1 b q)) (fun b q => hk9 b (hin2 b q)) (by omega))
      rw [et] at ch ln
      rw [List.length_cons] at ln
      refine ⟨_, rfl, v2, d, es, kvs, tl, _, rfl, ho1.th.same s2, hv2, ch, by omega, fun m ys2 H3 s3 _ hm hd3 => ?_⟩
      rw [← et] at hd3
      refine ⟨_, rfl, rfl, _, rfl, ?_⟩
      rw [decS, decide_eq_false (show ¬ ("enter" : Str) = "leave" by decide +kernel)]
      have s23 := s2.trans s3
      cases har with
      | cons c1 har =>
        cases har with
        | cons c2 har =>
          cases har
          cases c1
          obtain ⟨g, rfl, hg⟩ := encF_dp c2
          have hg3 := sqt_same s23 hg
          refine iteF ⟨_, rfl, r, _, _, _, rfl, rfl, sqt_same s23 hrs, rfl, ?_⟩
          have r1 := sm.rok (by decide) (by decide) (K := K) (H := H3) (x := .ref m) (.inl (.lst (.inl (.inl hm)) hd3))
          refine ⟨_, rfl, _, _, rfl, r1.1, r1.2.1, r1.2.2.1, r1.2.2.2, ?_⟩
          refine ⟨_, rfl, _, rfl, _, rfl, ?_⟩
          refine sl_to (k := 1) hg3 (by rw [List.length_map]; exact hr1) fun t3 H4 s4 ht3 => ?_
          rw [← List.map_take] at ht3
          have s24 := s23.trans s4
          refine cat_any (sqt_same s24 ho1.fr) ht3 (by rw [List.length_map, List.length_map, List.length_take]; exact Nat.le_trans (show ot.length + min 1 rs.length ≤ 50000 by omega) (by decide)) fun t4 H5 s5 ht4 => ?_
          rw [← List.map_append] at ht4
          refine ⟨_, rfl, _, rfl, ?_⟩
          refine sl_from (k := 1) (sqt_same (s4.trans s5) hg3) (by rw [List.length_map]; exact hr1) fun t5 H6 s6 ht5 => ?_
          rw [← List.map_drop] at ht5
          have s26 := (s24.trans s5).trans s6
          refine ⟨_, rfl, t4, t5, d, _, _, es, kvs, rfl, sqt_same s6 ht4, by omega, ⟨ht5, ho1.th.same s26, hin2, by omega⟩, fun m2 ys3 H7 s7 _ hm2 hd4 => ?_⟩
          have r2 := sm.rok (by decide) (by decide) (K := K) (H := H7) (x := .ref m2) (.inl (.lst (.inl (.inl hm2)) hd4))
          refine ⟨_, _, rfl, r2.1, r2.2.1, r2.2.2.1, r2.2.2.2, rfl, ?_⟩
          rw [teq]
          exact k _ (k1.trans (hh1.kh (s26.trans s7))) (hh1.same (s26.trans s7))
end
end K11

namespace K11
open PySem L2 Cm
theorem shaped_pairs (l : List (Int × Int)) : SeqAt.shaped (.list (l.map encP)) = true := by
  have h1 : ∀ l : List (Int × Int), PyData.canLayAll0 (l.map encP) = true := by
    intro l
    induction l with
    | nil => rfl
    | cons p r ih =>
      show ((true && (true && true)) && PyData.canLayAll0 (r.map encP)) = true
      rw [ih]
      rfl
  have h2 : ∀ l : List (Int × Int), PyData.depthAll (l.map encP) ≤ 2 := by
    intro l
    induction l with
    | nil => simp [PyData.depthAll]
    | cons p r ih =>
      rw [List.map_cons]
      simp only [PyData.depthAll]
      have : PyData.depth (encP p) ≤ 2 := by
        unfold encP
        simp [PyData.depth, PyData.depthAll]
      omega
  unfold SeqAt.shaped
  have e1 : PyData.canLay0 (.list (l.map encP)) = true := h1 l
  have e2 : PyData.depth (.list (l.map encP)) ≤ 64 := by
    have := h2 l
    simp only [PyData.depth]
    omega
  rw [e1, decide_eq_true e2]
  rfl
theorem sm_sE {es : Things} {goal : List Int} {j : Nat} (hg : ∀ b ∈ goal, b.natAbs < 64) (lg : goal.length ≤ 25000) (hj : j ≤ 30000) : Sm 3 500000 (sE es goal j) := by
  unfold sE
  cases h : (winds es goal)[j]? with
  | none => exact sm_arrive hg lg
  | some p =>
    have := wind_okb (List.mem_of_getElem? h) hg
    exact sm_step (.inr (.inr (.inl rfl))) (by omega) (fun b q => hg b (List.mem_of_mem_take q)) (by rw [List.length_take]; omega) hg lg (by omega)
def spTo (K : PySem.W.Frag) : Sp := fun vs H Q _ => ∃ (h c d g a : Addr) (goal ot : List Int) (es : Things) (kvs : List (Key × V)) (n : Nat), vs = [.ref h, .ref d, .ref g, .ref a] ∧ Hand H h c ∧ Fr K H g d goal es kvs ∧ Fr K H a d ot es kvs ∧ es.map (·.1) = births n ∧ n ≤ 60 ∧
  ∀ H', Kh h H H' → Hand H' h c → Q (.bl true) H'
section
variable {P : Program} {w : World} {K : PySem.W.Frag} {mg : Str → Option Value} {base : Heap}
--, level 5: 0 _law_hand_here | 1 _law_things_here | 2 _law_goal | 3 _law_other | 4 _law_winds | 5 _law_entered | 6 _law_at | 7 _law_birth | 8 _law_due
abbrev s_l_to_elsewhere : Stmt := top 23
abbrev N_l_to_elsewhere : List Str := ["_law_hand_here", "_law_things_here", "_law_goal", "_law_other", "_law_winds", "_law_entered", "_law_at", "_law_birth", "_law_due"]
theorem sc_l_to_elsewhere : FnScope N_l_to_elsewhere ["_law_hand_here", "_law_things_here", "_law_goal", "_law_other"] (defScope s_l_to_elsewhere) := ⟨rfl, rfl, rfl, by decide +kernel, rfl, by decide +kernel, by decide +kernel⟩
theorem ok_to (T : Txt mg) (c_l_draw : Cl P w K mg base 2 "_law_draw" spDraw) (c_l_winds_of : Cl P w K mg base 1 "_law_winds_of" (spWindsL K)) (c_p_next_step : Cl P w K mg base 4 "next_step" (spNext K))
    (D : At K mg "_law_to_elsewhere" s_l_to_elsewhere ["_law_hand_here", "_law_things_here", "_law_goal", "_law_other"]) : ClG P w K mg base 5 "_law_to_elsewhere" (spTo K) := by
  refine clG_of D sc_l_to_elsewhere (fun vs H Q E h => ?_) fun f cdv A outer s H vs Q E hgd hr h => ?_
  · obtain ⟨h, c, d, g, a, goal, ot, es, kvs, n, rfl, _⟩ := h
    rfl
  · obtain ⟨h, c, d, g, a, goal, ot, es, kvs, n, rfl, hh, hg, ho, hk, hn, k⟩ := h
    refine ⟨_, (pss_cons (ps_set (i := 4) sc_l_to_elsewhere.nd rfl (Or.inl rfl) (pe_c c_l_winds_of hr (by decide) (by rfl) (pa_cons (pv 2) (pa_cons (pv 1) pa_nil))))
      (pss_mid (ps_if (pt_cmpR (op_neD hr.units) (pv 4) (pe_lst pa_nil) (nomark _))
        (pss_cons (ps_set (i := 5) sc_l_to_elsewhere.nd rfl (Or.inl rfl) (pe_op op_add pe_int (pe_c c_l_draw hr (by decide) (by rfl) (pa_cons (pv 0) (pa_cons (pe_callB call_len_seq (by rfl) T.len (by decide +kernel) (pa_cons (pv 4) pa_nil)) pa_nil)))))
        (pss_mid (ps_if (pt_cmpR op_lt (pv 5) (pe_callB call_len_seq (by rfl) T.len (by decide +kernel) (pa_cons (pv 4) pa_nil)) (nomark _))
          (pss_cons (ps_asg (pe_ix ix_list (pv 4) (pv 5) (fun _ _ => rfl)) (pg_tup (by rfl) (pgs_cons (pg_name (i := 6) sc_l_to_elsewhere.nd rfl (Or.inl rfl)) (pgs_cons (pg_name (i := 7) sc_l_to_elsewhere.nd rfl (Or.inl rfl)) pgs_nil))))
          (pss_one (ps_set (i := 8) sc_l_to_elsewhere.nd rfl (Or.inl rfl) (pe_tup (pa_cons pe_str (pa_cons (pe_op op_add pe_int (pv 7)) (pa_cons (pe_slice sl_tupA (pv 2) po_none (po_some (pv 6))) (pa_cons (pe_tup (pa_cons pe_str (pa_cons (pv 2) (pa_cons (pe_op op_add (pv 5) pe_int) pa_nil)))) pa_nil))))))))
          (pss_one (ps_set (i := 8) sc_l_to_elsewhere.nd rfl (Or.inl rfl) (pe_tup (pa_cons pe_str (pa_cons pe_non (pa_cons (pv 2) (pa_cons pe_non pa_nil))))))))
        (pss_one (ps_if (pt_cmpR op_ne (pe_callB (call_reprD hgd hr.units) (by rfl) T.repr (by decide +kernel) (pa_cons (pe_c c_p_next_step hr (by decide) (by rfl) (pa_cons (pv 3) (pa_cons (pe_tup (pa_cons pe_str (pa_cons (pv 2) (pa_cons (pv 5) pa_nil)))) (pa_cons (pv 1) pa_nil)))) pa_nil)) (pe_callB (call_reprD hgd hr.units) (by rfl) T.repr (by decide +kernel) (pa_cons (pv 8) pa_nil)) (nomark _))
          (pss_one (ps_ret pe_bl))
          pss_nil))))
        pss_nil)
      (pss_one (ps_ret (pe_cmpR op_eq (pe_callB (call_reprD hgd hr.units) (by rfl) T.repr (by decide +kernel) (pa_cons (pe_c c_p_next_step hr (by decide) (by rfl) (pa_cons (pv 3) (pa_cons (pe_tup (pa_cons pe_str pa_nil)) (pa_cons (pv 1) pa_nil)))) pa_nil)) (pe_callB (call_reprD hgd hr.units) (by rfl) T.repr (by decide +kernel) (pa_cons (pe_tup (pa_cons pe_str (pa_cons pe_non (pa_cons (pv 3) (pa_cons pe_non pa_nil))))) pa_nil)) (nomark _)))))), ?_⟩
    have hb9 : ∀ b ∈ births n, b.natAbs < 64 := fun b hb => by
      have := births_mem.mp hb
      omega
    have hg9 : ∀ b ∈ goal, b.natAbs < 64 := fun b hb => hb9 b (by rw [← hk]; exact hg.ins b hb)
    have ho9 : ∀ b ∈ ot, b.natAbs < 64 := fun b hb => hb9 b (by rw [← hk]; exact ho.ins b hb)
    have dnh : ¬ d = h := hh.ne (fun ys e => by rw [ho.th.at_] at e; cases e)
    have lg := hg.len
    have wl := winds_len es goal
    have gk : ∀ {H' : Hp}, Kh h H H' → Fr K H' g d goal es kvs := fun q => ⟨q.tup hg.fr, hg.th.kp q dnh, hg.ins, hg.len⟩
    have ok' : ∀ {H' : Hp}, Kh h H H' → Fr K H' a d ot es kvs := fun q => ⟨q.tup ho.fr, ho.th.kp q dnh, ho.ins, ho.len⟩
    have teq : ∀ x : V, decide (x = x) = true := fun x => by simp
    refine ⟨_, rfl, _, rfl, g, d, goal, es, kvs, rfl, hg, fun t xs H1 s1 ht0 ht hd => ?_⟩
    have tnh := (hh.there ht0).1
    have k1 := hh.kh s1
    have hh1 := hh.same s1
    have lx : xs.length = (winds es goal).length := by have := DpAll.len hd; rwa [List.length_map] at this
    refine ⟨fun σ' H' => ∃ v5 v6 v7 v8 : Option V, σ' = [some (.ref h), some (.ref d), some (.ref g), some (.ref a), some (.ref t), v5, v6, v7, v8] ∧ Kh h H H' ∧ Hand H' h c, ?_, ?_⟩
    · refine ⟨_, rfl, Nat.zero_le _, fun q hq => ?_⟩
      have sq := same_new (o := .lst []) hq
      refine ⟨_, _, .lst (.inl (.inl (sq _ _ ht))) (dps_same sq _ _ hd), .lst (.inl (.inl upd_same)) .nil, shaped_pairs _, by decide +kernel, _, rfl, ?_⟩
      have k2 := k1.trans (hh1.kh sq)
      have hh2 := hh1.same sq
      by_cases h0 : winds es goal = []
      · rw [h0]
        exact iteF ⟨_, _, _, _, rfl, k2, hh2⟩
      · have ev : (!PyData.eqv (.list ((winds es goal).map encP)) (.list [])) = true := by
          cases hw : winds es goal with
          | nil => exact absurd hw h0
          | cons p r => rfl
        have hpos : 0 < (winds es goal).length := List.length_pos_iff.mpr h0
        rw [ev]
        refine iteT ?_
        refine ⟨_, rfl, _, rfl, t, _, rfl, .inl (.inl (.inl (sq _ _ ht))), h, c, _, rfl, hh2, by omega, Int.lt_of_le_of_lt (show (xs.length : Int) ≤ 25000 by omega) (by decide), fun m H3 m0 m1 k3 hh3 => ⟨_, _, rfl, rfl, ?_⟩⟩
        obtain ⟨j, rfl⟩ : ∃ j : Nat, m = (j : Int) := ⟨m.toNat, by omega⟩
        show gName 5 (V.int ((1 : Int) + (j : Int))) _ _ _
        rw [show (1 : Int) + (j : Int) = ((j + 1 : Nat) : Int) by omega]
        have hj : j < (winds es goal).length := by omega
        have k13 := k2.trans k3
        have ht3 := k3.st _ _ tnh (sq _ _ ht)
        have hd3 : DpAll K H3 xs ((winds es goal).map encP) := dps_keep (fun _ _ q => k3.tup q) _ _ (flatDs_of _ fun z hz => by obtain ⟨y, _, rfl⟩ := List.mem_map.mp hz; rfl) (dps_same sq _ _ hd)
        refine ⟨fun σ' H' => ∃ (v6 v7 : Option V) (du : V), σ' = [some (.ref h), some (.ref d), some (.ref g), some (.ref a), some (.ref t), some (.int ((j + 1 : Nat) : Int)), v6, v7, some du] ∧ Kh h H H' ∧ Hand H' h c ∧ Dp K H' du (sE es goal (j + 1)), ?_, ?_⟩
        · refine ⟨_, rfl, _, rfl, t, _, rfl, .inl (.inl (.inl ht3)), _, _, rfl, rfl, _, rfl, ?_⟩
          by_cases hlt : j + 1 < (winds es goal).length
          · rw [decide_eq_true (show ((j + 1 : Nat) : Int) < (xs.length : Int) by omega)]
            refine iteT ?_
            have ep : (winds es goal)[j + 1]? = some (winds es goal)[j + 1] := List.getElem?_eq_getElem hlt
            obtain ⟨v, g1, g2⟩ := DpAll.at hd3 (show ((winds es goal).map encP)[j + 1]? = some (encP (winds es goal)[j + 1]) by rw [List.getElem?_map, ep]; rfl)
            generalize (winds es goal)[j + 1] = p at ep g2
            obtain ⟨p1, b2⟩ := p
            obtain ⟨mm, e1, e2, _, _, _, _⟩ := wind_at ep
            cases (show p1 = (mm : Int) from e1)
            obtain ⟨u, rfl, hu⟩ := dp_enc g2
            refine ⟨_, rfl, _, rfl, t, _, _, _, rfl, rfl, .inl (.inl ht3), atI_nat g1, u, _, rfl, hu, rfl, _, _, rfl, _, _, rfl, rfl, ?_⟩
            refine ⟨_, rfl, _, _, rfl, rfl, _, rfl, _, rfl, _, rfl, ?_⟩
            refine sl_to (k := mm) (gk k13).fr (by rw [List.length_map]; omega) fun t3 H4 s4 ht4 => ?_
            rw [← List.map_take] at ht4
            refine ⟨_, rfl, _, rfl, _, _, rfl, rfl, by show 3 ≤ sizeLine; decide, fun t5 ht5 => ⟨by show 4 ≤ sizeLine; decide, fun t6 ht6 => ?_⟩⟩
            have s5 := same_new (o := .tup [.str "to", .ref g, .int (((j + 1 : Nat) : Int) + 1)]) ht5
            have s6 := same_new (o := .tup [.str "enter", .int (1000 + b2), .ref t3, .ref t5]) ht6
            have s46 := s4.trans (s5.trans s6)
            refine ⟨_, _, _, rfl, k13.trans (hh3.kh s46), hh3.same s46, ?_⟩
            have es2 : sE es goal (j + 1) = stepD "enter" (1000 + b2) (goal.take mm) goal (((j + 1 : Nat) : Int) + 1) := by
              unfold sE
              rw [ep]
              rfl
            rw [es2]
            exact .tup (.inl (.inl upd_same)) (.cons (.str _) (.cons (.int _) (.cons (dp_encF (sqt_same (s5.trans s6) ht4))
              (.cons (.tup (.inl (.inl (s6 _ _ upd_same))) (.cons (.str _) (.cons (dp_encF (sqt_same s46 (gk k13).fr)) (.cons (.int _) .nil)))) .nil))))
          · rw [decide_eq_false (show ¬ ((j + 1 : Nat) : Int) < (xs.length : Int) by omega)]
            refine iteF ⟨_, rfl, by show 4 ≤ sizeLine; decide, fun t5 ht5 => ?_⟩
            have s5 := same_new (o := .tup [.str "arrive", .non, .ref g, .non]) ht5
            refine ⟨_, _, _, rfl, k13.trans (hh3.kh s5), hh3.same s5, ?_⟩
            have es2 : sE es goal (j + 1) = arriveD goal := by
              unfold sE
              rw [List.getElem?_eq_none (by omega)]
            rw [es2]
            exact .tup (.inl (.inl upd_same)) (.cons (.str _) (.cons .non (.cons (dp_encF (sqt_same s5 (gk k13).fr)) (.cons .non .nil))))
        · rintro σ' H4 ⟨v6, v7, du, rfl, k4, hh4, hdu⟩
          refine ⟨_, rfl, _, rfl, _, rfl, by show 3 ≤ sizeLine; decide, fun r hr0 => ?_⟩
          have s5 := same_new (o := .tup [.str "to", .ref g, .int ((j + 1 : Nat) : Int)]) hr0
          have k5 := k4.trans (hh4.kh s5)
          have hh5 := hh4.same s5
          refine ⟨_, rfl, a, r, d, ot, es, kvs, _, _, rfl, ok' k5, .tup (.inl (.inl upd_same)) (.cons (.str _) (.cons (dp_encF (gk k5).fr) (.cons (.int _) .nil))), .inl ⟨goal, j + 1, rfl, hg.ins, hg.len, hj, rfl⟩, fun v H6 s6 hv => ?_⟩
          rw [enter_next es hj] at hv
          have sm := sm_sE (es := es) (j := j + 1) hg9 lg (by omega)
          have r1 := sm.rok (by decide) (by decide) (K := K) (.inl hv)
          have r2 := sm.rok (by decide) (by decide) (K := K) (.inl (dp_same (s5.trans s6) _ _ hdu))
          refine ⟨_, _, rfl, r1.1, r1.2.1, r1.2.2.1, r1.2.2.2, ?_⟩
          refine ⟨_, rfl, _, _, rfl, r2.1, r2.2.1, r2.2.2.1, r2.2.2.2, rfl, _, rfl, ?_⟩
          rw [ne_same]
          exact iteF ⟨_, _, _, _, rfl, k5.trans (hh5.kh s6), hh5.same s6⟩
    · rintro σ' H2 ⟨v5, v6, v7, v8, rfl, k2, hh2⟩
      refine ⟨_, rfl, by show 1 ≤ sizeLine; decide, fun r hr0 => ?_⟩
      have s3 := same_new (o := .tup [.str "out"]) hr0
      have k3 := k2.trans (hh2.kh s3)
      have hh3 := hh2.same s3
      refine ⟨_, rfl, a, r, d, ot, es, kvs, _, _, rfl, ok' k3, .tup (.inl (.inl upd_same)) (.cons (.str _) .nil), .inr (.inr (.inr ⟨rfl, rfl⟩)), fun v H4 s4 hv => ?_⟩
      have sm := sm_arrive ho9 ho.len
      have r1 := sm.rok (by decide) (by decide) (K := K) (.inl hv)
      refine ⟨_, _, rfl, r1.1, r1.2.1, r1.2.2.1, r1.2.2.2, ?_⟩
      refine ⟨_, rfl, by show 4 ≤ sizeLine; decide, fun t5 ht5 => ?_⟩
      have s5 := same_new (o := .tup [.str "arrive", .non, .ref a, .non]) ht5
      have s45 := s4.trans s5
      have r2 := sm.rok (by decide) (by decide) (K := K) (H := upd H4 t5 (.tup [.str "arrive", .non, .ref a, .non])) (x := .ref t5) (.inl (.tup (.inl (.inl upd_same)) (.cons (.str _) (.cons .non (.cons (dp_encF (sqt_same s45 (ok' k3).fr)) (.cons .non .nil))))))
      refine ⟨_, _, rfl, r2.1, r2.2.1, r2.2.2.1, r2.2.2.2, rfl, ?_⟩
      rw [teq]
      exact k _ (k3.trans (hh3.kh s45)) (hh3.same s45)
end
end K11

namespace K11
open PySem L2 Cm
def spLaw (K : PySem.W.Frag) : Sp := fun vs H Q _ => ∃ (a : Addr) (ns : List Int), vs = [.ref a] ∧ SqL K H a (ns.map V.int) ∧ ns.length ≤ 63 ∧ ∀ H', Q (.bl true) H'
theorem cut_last (xs : List V) (v : V) : cutV (xs ++ [v]) Option.none (some (-1)) = xs := by
  unfold cutV
  have e : HT.sIx (xs ++ [v]).length (xs ++ [v]).length (some (-1)) = xs.length := by
    show (if (-1 : Int) < 0 then ((-1 : Int) + ((xs ++ [v]).length : Int)).toNat else min ((-1 : Int)).toNat (xs ++ [v]).length) = _
    rw [if_pos (by decide), List.length_append]
    show ((-1 : Int) + ((xs.length + 1 : Nat) : Int)).toNat = _
    omega
  rw [e, HT.sIx_none, List.drop_zero, Nat.sub_zero, List.take_left]
theorem on_both (es : Things) (other piece more : List Int) : onL es other (piece ++ more) = ((winds es piece).map fun p => layStep (1000 + p.2) (other ++ piece.take p.1.toNat) (piece.drop p.1.toNat ++ more)) ++ onL es (other ++ piece) more := by
  have e : winds es (piece ++ more) = winds es piece ++ (winds es more).map fun p => (p.1 + (piece.length : Int), p.2) := by
    rw [winds_F, winds_F, winds_F es more, windsF_app, Nat.zero_add, ← windsF_shift es piece.length more 0]
    rfl
  unfold onL
  rw [e, List.map_append, List.map_map, List.append_assoc, List.append_assoc]
  congr 1
  · refine List.map_congr_left fun p hp => ?_
    rw [winds_F] at hp
    obtain ⟨i, h1, h2, _, _⟩ := windsF_mem es piece 0 p hp
    have ei : p.1.toNat = i := by omega
    rw [ei, List.take_append_of_le_length (by omega), List.drop_append_of_le_length (by omega)]
  · congr 1
    · refine List.map_congr_left fun p hp => ?_
      rw [winds_F] at hp
      obtain ⟨i, h1, h2, _, _⟩ := windsF_mem es more 0 p hp
      have ei : p.1.toNat = i := by omega
      have ej : (p.1 + (piece.length : Int)).toNat = piece.length + i := by omega
      show layStep (1000 + p.2) (other ++ (piece ++ more).take (p.1 + (piece.length : Int)).toNat) ((piece ++ more).drop (p.1 + (piece.length : Int)).toNat) = _
      rw [ej, ei, List.take_length_add_append, List.append_assoc, List.drop_length_add_append]
theorem wipe_get (σ : L2.St) : ∀ (vs : List Nat) (n : Nat), (wipe σ vs)[n]? = if n ∈ vs then (if n < σ.length then some Option.none else Option.none) else σ[n]?
  | [], n => by
    rw [if_neg (by simp)]
    rfl
  | v :: vs, n => by
    show ((wipe σ vs).set v Option.none)[n]? = _
    by_cases e : v = n
    · subst e
      rw [if_pos List.mem_cons_self]
      by_cases h : v < σ.length
      · rw [if_pos h, List.getElem?_set_self (by rw [wipe_length]; exact h)]
      · rw [if_neg h, List.getElem?_eq_none (by rw [List.length_set, wipe_length]; omega)]
    · rw [List.getElem?_set_ne e, wipe_get σ vs n]
      have q : (n ∈ v :: vs) ↔ n ∈ vs := by
        rw [List.mem_cons]
        exact ⟨fun h => h.resolve_left fun q => e q.symm, .inr⟩
      by_cases h : n ∈ vs
      · rw [if_pos h, if_pos (q.mpr h)]
      · rw [if_neg h, if_neg fun z => h (q.mp z)]
theorem wipe4 {σ : L2.St} {i j k l : Nat} {a b c d : Option V} : wipe (((((wipe σ [i, j, k, l]).set i a).set j b).set k c).set l d) [i, j, k, l] = wipe σ [i, j, k, l] := by
  refine List.ext_getElem? fun n => ?_
  rw [wipe_get, wipe_get]
  by_cases h : n ∈ [i, j, k, l]
  · rw [if_pos h, if_pos h, List.length_set, List.length_set, List.length_set, List.length_set, wipe_length]
  · rw [if_neg h, if_neg h]
    have h' := h
    simp only [List.mem_cons, List.not_mem_nil, or_false, not_or] at h'
    rw [List.getElem?_set_ne (fun e => h'.2.2.2 e.symm), List.getElem?_set_ne (fun e => h'.2.2.1 e.symm), List.getElem?_set_ne (fun e => h'.2.1 e.symm), List.getElem?_set_ne (fun e => h'.1 e.symm), wipe_out h]
theorem g17 {σ : L2.St} {a b c d : Option V} (h : 20 < σ.length) : (((((wipe σ [17, 18, 19, 20]).set 17 a).set 18 b).set 19 c).set 20 d)[17]? = some a := by
  rw [List.getElem?_set_ne (by decide), List.getElem?_set_ne (by decide), List.getElem?_set_ne (by decide), List.getElem?_set_self (by rw [wipe_length]; omega)]
theorem g18 {σ : L2.St} {a b c d : Option V} (h : 20 < σ.length) : (((((wipe σ [17, 18, 19, 20]).set 17 a).set 18 b).set 19 c).set 20 d)[18]? = some b := by
  rw [List.getElem?_set_ne (by decide), List.getElem?_set_ne (by decide), List.getElem?_set_self (by rw [List.length_set, wipe_length]; omega)]
theorem g19 {σ : L2.St} {a b c d : Option V} (h : 20 < σ.length) : (((((wipe σ [17, 18, 19, 20]).set 17 a).set 18 b).set 19 c).set 20 d)[19]? = some c := by
  rw [List.getElem?_set_ne (by decide), List.getElem?_set_self (by rw [List.length_set, List.length_set, wipe_length]; omega)]
theorem g20 {σ : L2.St} {a b c d : Option V} (h : 20 < σ.length) : (((((wipe σ [17, 18, 19, 20]).set 17 a).set 18 b).set 19 c).set 20 d)[20]? = some d := by
  rw [List.getElem?_set_self (by rw [List.length_set, List.length_set, List.length_set, wipe_length]; omega)]
theorem g13 {σ : L2.St} {a b c d : Option V} {x : Option (Option V)} (h : σ[13]? = x) : (((((wipe σ [17, 18, 19, 20]).set 17 a).set 18 b).set 19 c).set 20 d)[13]? = x := by
  rw [List.getElem?_set_ne (by decide), List.getElem?_set_ne (by decide), List.getElem?_set_ne (by decide), List.getElem?_set_ne (by decide), wipe_out (by decide)]
  exact h
theorem ne_intsD (l : List Int) : (!PyData.eqv (.list (l.map PyData.int)) (.list (l.map PyData.int))) = false := by
  show (!PyData.eqvAll _ _) = false
  rw [eqv_ints]
  rfl
theorem births_int {K : PySem.W.Frag} {H : Hp} {acc : List V} {l : List Int} (h : DpAll K H acc (l.map PyData.int)) : acc = l.map V.int := by
  obtain ⟨fs, rfl, e, _⟩ := all_ints (P := fun _ => True) h fun d hd => by
    obtain ⟨q, _, rfl⟩ := List.mem_map.mp hd
    exact ⟨_, rfl, trivial⟩
  rw [map_int_inj e]
section
variable {P : Program} {w : World} {K : PySem.W.Frag} {mg : Str → Option Value} {base : Heap}
--, level 7: 0 _law_script | 1 _law_hand_here | 2 _law_turn | 3 _law_things_here | 4 _law_kept | 5 _law_frames | 6 _law_other | 7 _law_off | 8 _law_cut | 9 _law_base | 10 _law_piece | 11 _law_on | 12 _law_step | 13 _law_more | 14 _law_first | 15 _law_second | 16 _law_both | 17 _law_word | 18 _law_deed | 19 _law_below | 20 _law_road
abbrev s_law : Stmt := top 24
abbrev N_law : List Str := ["_law_script", "_law_hand_here", "_law_turn", "_law_things_here", "_law_kept", "_law_frames", "_law_other", "_law_off", "_law_cut", "_law_base", "_law_piece", "_law_on", "_law_step", "_law_more", "_law_first", "_law_second", "_law_both", "_law_word", "_law_deed", "_law_below", "_law_road"]
theorem sc_law : FnScope N_law ["_law_script"] (defScope s_law) := ⟨rfl, rfl, rfl, by decide +kernel, rfl, by decide +kernel, by decide +kernel⟩
structure Cls11 (P : Program) (w : World) (K : PySem.W.Frag) (mg : Str → Option Value) (base : Heap) : Prop where
  hand : Cl P w K mg base 1 "_law_hand" (spHand K)
  draw : Cl P w K mg base 2 "_law_draw" spDraw
  pick : Cl P w K mg base 3 "_law_pick" (spPick K)
  things : Cl P w K mg base 4 "_law_things" (spThings K)
  row : Cl P w K mg base 4 "_law_row" (spRow K)
  offs : Cl P w K mg base 2 "_law_off_steps" (spOffL K)
  ons : Cl P w K mg base 2 "_law_on_steps" (spOn K)
  walked : Cl P w K mg base 5 "_law_walked" (spWalked K)
  els : ClG P w K mg base 6 "_law_elsewhere" (spElse K)
  to : ClG P w K mg base 5 "_law_to_elsewhere" (spTo K)
  lay : Cl P w K mg base 2 "lay_on" (spLay K)
  cut : Cl P w K mg base 1 "mark_cut" (spNum K cutAll)
  next : Cl P w K mg base 4 "next_step" (spNext K)
theorem ok_law {f : Addr} {fd : FuncData} (T : Txt mg) (C : Cls11 P w K mg base) (F : Fun K "law" "law" s_law f fd) : LawAt P w K mg base 7 f fd ["_law_script"] (spLaw K) := by
  have c_l_hand := C.hand
  have c_l_draw := C.draw
  have c_l_pick := C.pick
  have c_l_things := C.things
  have c_l_row := C.row
  have c_l_off_steps := C.offs
  have c_l_on_steps := C.ons
  have c_l_walked := C.walked
  have c_l_elsewhere := C.els
  have c_l_to_elsewhere := C.to
  have c_p_lay_on := C.lay
  have c_p_mark_cut := C.cut
  have c_p_next_step := C.next
  refine lawAt_of F sc_law (fun vs H Q E h => ?_) fun cdv A outer s H vs Q E hg hr h => ?_
  · obtain ⟨a, ns, rfl, _⟩ := h
    rfl
  · obtain ⟨a, ns, rfl, hS, hlen, k⟩ := h
    have hgd : (A.deeper (PyProof.Rows.envOfC "law" (defScope s_law) s.heap.objs.size f cdv)).guards = some [] := hg
    refine ⟨_, (pss_cons (ps_set (i := 1) sc_law.nd rfl (Or.inl rfl) (pe_c c_l_hand hr (by decide) (by rfl) (pa_cons (pv 0) pa_nil)))
      (pss_cons (ps_for PassesOwn.never rfl (pi_range1 (by rfl) T.range (pa_cons pe_int pa_nil)) (pg_name (i := 2) sc_law.nd rfl (Or.inl rfl))
        (pss_cons (ps_set (i := 3) sc_law.nd rfl (Or.inl rfl) (pe_c c_l_things hr (by decide) (by rfl) (pa_cons (pv 1) (pa_cons (pe_op op_add pe_int (pe_c c_l_draw hr (by decide) (by rfl) (pa_cons (pv 1) (pa_cons pe_int pa_nil)))) pa_nil))))
        (pss_cons (ps_set (i := 4) sc_law.nd rfl (Or.inl rfl) (pe_callB (call_reprD hgd hr.units) (by rfl) T.repr (by decide +kernel) (pa_cons (pv 3) pa_nil)))
        (pss_cons (ps_set (i := 5) sc_law.nd rfl (Or.inl rfl) (pe_c c_l_row hr (by decide) (by rfl) (pa_cons (pv 1) (pa_cons (pv 3) (pa_cons (pe_c c_l_pick hr (by decide) (by rfl) (pa_cons (pv 1) (pa_cons (pe_lst (pa_cons pe_int (pa_cons pe_int (pa_cons pe_int pa_nil)))) pa_nil))) pa_nil)))))
        (pss_cons (ps_set (i := 6) sc_law.nd rfl (Or.inl rfl) (pe_c c_l_row hr (by decide) (by rfl) (pa_cons (pv 1) (pa_cons (pv 3) (pa_cons pe_int pa_nil)))))
        (pss_cons (ps_set (i := 7) sc_law.nd rfl (Or.inl rfl) (pe_c c_l_off_steps hr (by decide) (by rfl) (pa_cons (pv 5) (pa_cons (pv 3) pa_nil))))
        (pss_cons (ps_if (pt_cmpR op_ne (pe_callB (call_reprD hgd hr.units) (by rfl) T.repr (by decide +kernel) (pa_cons (pe_c c_l_walked hr (by decide) (by rfl) (pa_cons (pe_c c_p_next_step hr (by decide) (by rfl) (pa_cons (pv 5) (pa_cons (pe_tup (pa_cons pe_str pa_nil)) (pa_cons (pv 3) pa_nil)))) (pa_cons (pv 3) (pa_cons pe_int pa_nil)))) pa_nil)) (pe_callB (call_reprD hgd hr.units) (by rfl) T.repr (by decide +kernel) (pa_cons (pv 7) pa_nil)) (nomark _))
          (pss_one (ps_ret pe_bl))
          pss_nil)
        (pss_cons (ps_set (i := 8) sc_law.nd rfl (Or.inl rfl) (pe_c c_p_mark_cut hr (by decide) (by rfl) (pa_cons (pv 5) (pa_cons (pv 3) pa_nil))))
        (pss_cons (ps_par (i := 9) (j := 10) (by rfl) sc_law.nd rfl rfl (by decide) rfl rfl (pa_cons (pe_slice sl_tupA (pv 5) po_none (po_some (pv 8))) (pa_cons (pe_slice sl_tupA (pv 5) (po_some (pv 8)) po_none) pa_nil)) (by rfl))
        (pss_cons (ps_set (i := 11) sc_law.nd rfl (Or.inl rfl) (pe_c c_l_on_steps hr (by decide) (by rfl) (pa_cons (pv 9) (pa_cons (pv 10) (pa_cons (pv 3) pa_nil)))))
        (pss_cons (ps_if (pt_cmpR op_ne (pe_callB (call_reprD hgd hr.units) (by rfl) T.repr (by decide +kernel) (pa_cons (pe_c c_l_walked hr (by decide) (by rfl) (pa_cons (pe_c c_p_lay_on hr (by decide) (by rfl) (pa_cons (pv 9) (pa_cons (pv 10) (pa_cons (pv 3) pa_nil)))) (pa_cons (pv 3) (pa_cons pe_int pa_nil)))) pa_nil)) (pe_callB (call_reprD hgd hr.units) (by rfl) T.repr (by decide +kernel) (pa_cons (pv 11) pa_nil)) (nomark _))
          (pss_one (ps_ret pe_bl))
          pss_nil)
        (pss_cons (ps_if (pt_cmpR (op_neD hr.units) (pe_lc (own := [("_law_step", 12)]) rfl sc_law.nd (pi_list (pe_slice sl_list (pv 11) po_none (po_some (pe_un un_neg pe_int)))) (blkOk_by (N := N_law) (sc := defScope s_law) (by decide +kernel))
      (fun _ _ _ _ _ => (pg_name (i := 12) sc_law.nd rfl (Or.inl rfl)))
      (fun _ _ _ _ _ => pts_nil)
      (fun _ _ _ _ _ => (pe_op op_sub (pe_ix (kx_tup (K := K)) (pv 12) pe_int (fun _ _ => rfl)) pe_int))) (pe_revL (pe_lc (own := [("_law_step", 12)]) rfl sc_law.nd (pi_list (pe_slice sl_list (pv 7) po_none (po_some (pe_un un_neg pe_int)))) (blkOk_by (N := N_law) (sc := defScope s_law) (by decide +kernel))
      (fun _ _ _ _ _ => (pg_name (i := 12) sc_law.nd rfl (Or.inl rfl)))
      (fun _ _ _ _ _ => pts_nil)
      (fun _ _ _ _ _ => (pe_op op_sub (pe_ix (kx_tup (K := K)) (pv 12) pe_int (fun _ _ => rfl)) pe_int)))) (nomark _))
          (pss_one (ps_ret pe_bl))
          pss_nil)
        (pss_cons (ps_set (i := 13) sc_law.nd rfl (Or.inr rfl) (pe_c c_l_row hr (by decide) (by rfl) (pa_cons (pv 1) (pa_cons (pv 3) (pa_cons pe_int pa_nil)))))
        (pss_cons (ps_set (i := 14) sc_law.nd rfl (Or.inl rfl) (pe_c c_l_walked hr (by decide) (by rfl) (pa_cons (pe_c c_p_lay_on hr (by decide) (by rfl) (pa_cons (pv 6) (pa_cons (pv 10) (pa_cons (pv 3) pa_nil)))) (pa_cons (pv 3) (pa_cons pe_int pa_nil)))))
        (pss_cons (ps_set (i := 15) sc_law.nd rfl (Or.inl rfl) (pe_c c_l_walked hr (by decide) (by rfl) (pa_cons (pe_c c_p_lay_on hr (by decide) (by rfl) (pa_cons (pe_op op_catA (pv 6) (pv 10)) (pa_cons (pv 13) (pa_cons (pv 3) pa_nil)))) (pa_cons (pv 3) (pa_cons pe_int pa_nil)))))
        (pss_cons (ps_set (i := 16) sc_law.nd rfl (Or.inl rfl) (pe_op op_cat (pe_lc (own := [("_law_word", 17), ("_law_deed", 18), ("_law_below", 19), ("_law_road", 20)]) (g := gTup K 4 (gCons (gName 17) (gCons (gName 18) (gCons (gName 19) (gCons (gName 20) gNil))))) rfl sc_law.nd (pi_list (pe_slice sl_list (pv 14) po_none (po_some (pe_un un_neg pe_int)))) (blkOk_by (N := N_law) (sc := defScope s_law) (by decide +kernel))
      (fun _ _ _ _ _ => (pg_tup rfl (pgs_cons (pg_name (i := 17) sc_law.nd rfl (Or.inl rfl)) (pgs_cons (pg_name (i := 18) sc_law.nd rfl (Or.inl rfl)) (pgs_cons (pg_name (i := 19) sc_law.nd rfl (Or.inl rfl)) (pgs_cons (pg_name (i := 20) sc_law.nd rfl (Or.inl rfl)) pgs_nil))))))
      (fun _ _ _ _ _ => pts_nil)
      (fun _ _ _ _ _ => (pe_tup (pa_cons (pv 17) (pa_cons (pv 18) (pa_cons (pv 19) (pa_cons (pe_tup (pa_cons pe_str (pa_cons (pe_op (ko_catA (K := K)) (pe_ix (kx_tup (K := K)) (pv 20) pe_int (fun _ _ => rfl)) (pv 13)) pa_nil))) pa_nil))))))) (pv 15)))
        (pss_cons (ps_if (pt_cmpR op_ne (pe_callB (call_reprD hgd hr.units) (by rfl) T.repr (by decide +kernel) (pa_cons (pe_c c_l_walked hr (by decide) (by rfl) (pa_cons (pe_c c_p_lay_on hr (by decide) (by rfl) (pa_cons (pv 6) (pa_cons (pe_op op_catA (pv 10) (pv 13)) (pa_cons (pv 3) pa_nil)))) (pa_cons (pv 3) (pa_cons pe_int pa_nil)))) pa_nil)) (pe_callB (call_reprD hgd hr.units) (by rfl) T.repr (by decide +kernel) (pa_cons (pv 16) pa_nil)) (nomark _))
          (pss_one (ps_ret pe_bl))
          pss_nil)
        (pss_cons (ps_if (pt_cmpR op_ne (pe_callB (call_reprD hgd hr.units) (by rfl) T.repr (by decide +kernel) (pa_cons (pv 15) pa_nil)) (pe_callB (call_reprD hgd hr.units) (by rfl) T.repr (by decide +kernel) (pa_cons (pe_c c_l_on_steps hr (by decide) (by rfl) (pa_cons (pe_op op_catA (pv 6) (pv 10)) (pa_cons (pv 13) (pa_cons (pv 3) pa_nil)))) pa_nil)) (nomark _))
          (pss_one (ps_ret pe_bl))
          pss_nil)
        (pss_cons (ps_if (PW.pt (pw_or (pt_not (pt_val (pe_cG c_l_elsewhere hgd hr (by decide) (by rfl) (pa_cons (pv 1) (pa_cons (pv 3) (pa_cons (pv 7) (pa_cons (pv 6) pa_nil))))))) (pw_or1 (pt_not (pt_val (pe_cG c_l_elsewhere hgd hr (by decide) (by rfl) (pa_cons (pv 1) (pa_cons (pv 3) (pa_cons (pv 11) (pa_cons (pv 6) pa_nil))))))))))
          (pss_one (ps_ret pe_bl))
          pss_nil)
        (pss_one (ps_if (PW.pt (pw_or (pt_not (pt_val (pe_cG c_l_to_elsewhere hgd hr (by decide) (by rfl) (pa_cons (pv 1) (pa_cons (pv 3) (pa_cons (pv 5) (pa_cons (pv 6) pa_nil))))))) (pw_or1 (pt_cmpR op_ne (pe_callB (call_reprD hgd hr.units) (by rfl) T.repr (by decide +kernel) (pa_cons (pv 3) pa_nil)) (pv 4) (nomark _)))))
          (pss_one (ps_ret pe_bl))
          pss_nil)))))))))))))))))))))
      (pss_one (ps_ret pe_bl)))), ?_⟩
    refine ⟨_, rfl, a, ns, rfl, hS, hlen, fun h c H1 s1 hn hcn hh1 => ?_⟩
    refine ⟨3, rfl, by decide, by decide, ?_⟩
    refine for_it (walk_upto (n := (3 : Int).toNat)) (fun i σ H' => ∃ v2 v3 v4 v5 v6 v7 v8 v9 v10 v11 v13 v14 v15 v16 : Option V, σ = [some (.ref a), some (.ref h), v2, v3, v4, v5, v6, v7, v8, v9, v10, v11, none, v13, v14, v15, v16, none, none, none, none] ∧ Hand H' h c)
      ⟨none, none, none, none, none, none, none, none, none, none, none, none, none, none, rfl, hh1⟩ (fun _ _ _ _ _ => trivial) ?_ (fun σ H' _ => k H')
    rintro i0 v σ H0 H2 hi ⟨v2, v3, v4, v5, v6, v7, v8, v9, v10, v11, v13, v14, v15, v16, rfl, hh2⟩ ⟨rfl, rfl⟩
    -- things
    refine ⟨_, rfl, _, rfl, h, c, _, rfl, hh2, by decide, by decide, fun n H3 n0 n1 k3 hh3 => ⟨_, _, rfl, rfl, h, c, _, rfl, hh3, by omega, by omega, fun d es kvs H4 k4 hh4 hd ht4 hk => ?_⟩⟩
    obtain ⟨n, rfl⟩ : ∃ j : Nat, n = (j : Int) := ⟨n.toNat, by omega⟩
    have hnn : (1 + (n : Int)).toNat = n + 1 := by omega
    rw [hnn] at hk
    have r4 := ht4.rok hk (by omega)
    refine ⟨_, rfl, _, _, rfl, r4.1, r4.2.1, r4.2.2.1, r4.2.2.2, ?_⟩
    -- frames
    refine ⟨_, rfl, _, rfl, _, rfl, by show 3 ≤ sizeLine; decide, fun l hl => ?_⟩
    have s5 := same_new (o := .lst [.int 6, .int 15, .int 30]) hl
    have hh5 := hh4.same s5
    refine ⟨h, c, l, _, rfl, hh5, .inl ⟨.inl (.inl upd_same), (hh4.there hl).1⟩, by simp, by show 3 ≤ 1000; decide, fun v H6 hv k6 hh6 => ?_⟩
    obtain ⟨most, rfl, hm0, hm1⟩ : ∃ m : Int, v = .int m ∧ 0 ≤ m ∧ m ≤ 30 := by
      rcases List.mem_cons.mp hv with rfl | hv
      · exact ⟨6, rfl, by decide, by decide⟩
      · rcases List.mem_cons.mp hv with rfl | hv
        · exact ⟨15, rfl, by decide, by decide⟩
        · cases List.mem_singleton.mp hv
          exact ⟨30, rfl, by decide, by decide⟩
    have dnh : ¬ d = h := hh4.ne (fun xs e => by rw [ht4.at_] at e; cases e)
    have ht6 := (ht4.same s5).kp k6 dnh
    refine ⟨h, c, d, most, es, kvs, n + 1, rfl, hh6, ht6, hk, by omega, by omega, hm0, by omega, fun pf fs H7 k7 hh7 hpf hfl hfs => ?_⟩
    have ht7 := ht6.kp k7 dnh
    -- the other row
    refine ⟨_, rfl, _, rfl, h, c, d, 12, es, kvs, n + 1, rfl, hh7, ht7, hk, by omega, by omega, by decide, by decide, fun po ot H8 k8 hh8 hpo hol hos => ?_⟩
    have ht8 := ht7.kp k8 dnh
    have hfs' : ∀ b ∈ fs, b ∈ es.map (·.1) := fun b hb => by rw [hk]; exact hfs b hb
    have hos' : ∀ b ∈ ot, b ∈ es.map (·.1) := fun b hb => by rw [hk]; exact hos b hb
    have frF : Fr K H8 pf d fs es kvs := ⟨k8.tup hpf, ht8, hfs', by omega⟩
    have frO : Fr K H8 po d ot es kvs := ⟨hpo, ht8, hos', by omega⟩
    have h64 : ∀ b ∈ births (n + 1), b.natAbs < 64 := fun b hb => by
      have := births_mem.mp hb
      omega
    have f64 : ∀ b ∈ fs, b.natAbs < 64 := fun b hb => h64 b (hfs b hb)
    have o64 : ∀ b ∈ ot, b.natAbs < 64 := fun b hb => h64 b (hos b hb)
    -- taking off
    refine ⟨_, rfl, _, rfl, pf, d, fs, es, kvs, rfl, frF, fun mo xo H9 s9 mo0 hmo hdo => ?_⟩
    have monh := (hh8.there mo0).1
    refine ⟨_, rfl, by show 1 ≤ sizeLine; decide, fun r hr0 => ?_⟩
    have s10 := same_new (o := .tup [.str "off"]) hr0
    have s810 := s9.trans s10
    refine ⟨_, rfl, pf, r, d, fs, es, kvs, _, _, rfl, frF.same s810, .tup (.inl (.inl upd_same)) (.cons (.str _) .nil), .inr (.inr (.inl ⟨rfl, rfl⟩)), fun v11' H11 s11 hv11 => ?_⟩
    obtain ⟨cho, tlo, eto⟩ := chain_off (es := es) _ fs (Nat.le_refl _) hfs' frF.len
    have lno := offL_len es fs
    have smo := SmA.lst (sm_offL (es := es) f64 (by omega))
    have cho' := cho
    have lno' := lno
    rw [eto] at cho' lno'
    rw [List.length_cons] at lno'
    have s811 := s810.trans s11
    refine ⟨_, rfl, v11', d, es, kvs, tlo, _, rfl, ht8.same s811, hv11, cho', by omega, fun m12 x12 H12 s12 _ hm12 hd12 => ?_⟩
    rw [← eto] at hd12
    have s912 := s10.trans (s11.trans s12)
    have r12 := smo.rok (by decide) (by decide) (K := K) (H := H12) (x := .ref m12) (.inl (.lst (.inl (.inl hm12)) hd12))
    have r13 := smo.rok (by decide) (by decide) (K := K) (H := H12) (x := .ref mo) (.inl (.lst (.inl (.inl (s912 _ _ hmo))) (dps_same s912 _ _ hdo)))
    refine ⟨_, _, rfl, r12.1, r12.2.1, r12.2.2.1, r12.2.2.2, ?_⟩
    refine ⟨_, rfl, _, _, rfl, r13.1, r13.2.1, r13.2.2.1, r13.2.2.2, rfl, _, rfl, ?_⟩
    rw [ne_same]
    refine iteF ?_
    have s812 := s9.trans s912
    -- the cut
    refine ⟨_, rfl, _, rfl, pf, d, fs, es, kvs, rfl, frF.same s812, fun H13 s13 => ?_⟩
    have lc : cutAll es fs ≤ fs.length := cutM_le es fs _
    have s813 := s812.trans s13
    refine ⟨_, rfl, _, rfl, _, rfl, ?_⟩
    refine sl_to (k := cutAll es fs) (frF.same s813).fr (by rw [List.length_map]; omega) fun pb H14 s14 hpb => ?_
    rw [← List.map_take] at hpb
    refine ⟨_, rfl, _, rfl, _, rfl, ?_⟩
    have s814 := s813.trans s14
    refine sl_from (k := cutAll es fs) (frF.same s814).fr (by rw [List.length_map]; omega) fun pp H15 s15 hpp => ?_
    rw [← List.map_drop] at hpp
    refine ⟨_, _, rfl, ?_⟩
    have s815 := s814.trans s15
    have hh15 := hh8.same s815
    have frF15 := frF.same s815
    have frO15 := frO.same s815
    have hdo' : DpAll K H9 xo (((winds es (fs.drop (cutAll es fs))).reverse.map fun p => offStep (2000 + p.2) (fs.take (cutAll es fs + p.1.toNat))) ++ [arriveD (fs.take (cutAll es fs))]) := hdo
    have lpc : (fs.take (cutAll es fs)).length + (fs.drop (cutAll es fs)).length = fs.length := by
      rw [List.length_take, List.length_drop]
      omega
    have bin : ∀ b ∈ fs.take (cutAll es fs), b ∈ es.map (·.1) := fun b q => hfs' b (List.mem_of_mem_take q)
    have pin : ∀ b ∈ fs.drop (cutAll es fs), b ∈ es.map (·.1) := fun b q => hfs' b (List.mem_of_mem_drop q)
    have b64 : ∀ b ∈ fs.take (cutAll es fs), b.natAbs < 64 := fun b q => f64 b (List.mem_of_mem_take q)
    have p64 : ∀ b ∈ fs.drop (cutAll es fs), b.natAbs < 64 := fun b q => f64 b (List.mem_of_mem_drop q)
    generalize hpc : fs.drop (cutAll es fs) = piece at hpp lpc pin p64 hdo'
    generalize fs.take (cutAll es fs) = bse at hpb lpc bin b64 hdo'
    have hpb15 := sqt_same s15 hpb
    have frP15 : Fr K H15 pp d piece es kvs := ⟨hpp, ht8.same s815, pin, by omega⟩
    have ht15 := ht8.same s815
    have gk : ∀ {x : Addr} {y : List Int} {H' : Hp}, Fr K H15 x d y es kvs → Kh h H15 H' → Fr K H' x d y es kvs := fun fr k => ⟨k.tup fr.fr, ht15.kp k dnh, fr.ins, fr.len⟩
    -- laying on
    refine ⟨_, rfl, _, rfl, _, rfl, pb, pp, d, bse, piece, es, kvs, rfl, hpb15, by omega, frP15, fun mn xn H16 s16 mn0 hmn hdn => ?_⟩
    have mnnh := (hh15.there mn0).1
    obtain ⟨chn, tln, etn⟩ := chain_on (es := es) _ bse piece (Nat.le_refl _) bin pin (by omega)
    have lnn := onL_len es bse piece
    have smn := SmA.lst (sm_onL (es := es) (below := bse) (fs := piece) b64 p64 (by omega))
    have chn' := chn
    have lnn' := lnn
    rw [etn] at chn' lnn'
    rw [List.length_cons] at lnn'
    refine ⟨_, rfl, _, rfl, _, rfl, pb, pp, d, bse, piece, es, kvs, rfl, sqt_same s16 hpb15, by omega, frP15.same s16, fun v17 H17 s17 hv17 => ?_⟩
    have s1517 := s16.trans s17
    refine ⟨_, rfl, v17, d, es, kvs, tln, _, rfl, ht15.same s1517, hv17, chn', by omega, fun m18 x18 H18 s18 _ hm18 hd18 => ?_⟩
    rw [← etn] at hd18
    have s1618 := s17.trans s18
    have r18 := smn.rok (by decide) (by decide) (K := K) (H := H18) (x := .ref m18) (.inl (.lst (.inl (.inl hm18)) hd18))
    have r19 := smn.rok (by decide) (by decide) (K := K) (H := H18) (x := .ref mn) (.inl (.lst (.inl (.inl (s1618 _ _ hmn))) (dps_same s1618 _ _ hdn)))
    refine ⟨_, _, rfl, r18.1, r18.2.1, r18.2.2.1, r18.2.2.2, ?_⟩
    refine ⟨_, rfl, _, _, rfl, r19.1, r19.2.1, r19.2.2.1, r19.2.2.2, rfl, _, rfl, ?_⟩
    rw [ne_same]
    refine iteF ?_
    have s1518 := s16.trans s1618
    -- the winds of both, from the one end and from the other
    have wl := winds_len es piece
    obtain ⟨xn1, xn2, rfl, hdn1, hdn2⟩ := dps_split (show DpAll K H16 xn (((winds es piece).map fun p => layStep (1000 + p.2) (bse ++ piece.take p.1.toNat) (piece.drop p.1.toNat)) ++ [arriveD (bse ++ piece)]) from hdn)
    obtain ⟨un, rfl⟩ : ∃ u, xn2 = [u] := by
      cases hdn2 with
      | cons u1 u2 =>
        cases u2
        exact ⟨_, rfl⟩
    obtain ⟨xo1, xo2, rfl, hdo1, hdo2⟩ := dps_split hdo'
    obtain ⟨uo, rfl⟩ : ∃ u, xo2 = [u] := by
      cases hdo2 with
      | cons u1 u2 =>
        cases u2
        exact ⟨_, rfl⟩
    refine ⟨_, rfl, _, rfl, _, rfl, mn, _, rfl, .inl (.inl (s1618 _ _ hmn)), fun p19 hp19 => ⟨p19, rfl, ⟨_, .inl (.inl upd_same)⟩, fun D20 hD20 => ?_⟩⟩
    rw [cut_last] at hD20 ⊢
    have s19 := same_new (o := .lst xn1) hp19
    have lxn : xn1.length = (winds es piece).length := by have := DpAll.len hdn1; rwa [List.length_map] at this
    have hdn19 := dps_same (s1618.trans s19) _ _ hdn1
    refine lc_data (K := K) (walk_list (xs := xn1)) (fun j => ((winds es piece)[j]?).map fun p => PyData.int (1000 + p.2 - 1000)) hD20 (by omega) (fun H' s => s.seq (.inl (.inl upd_same))) (fun j _ z e => ?_) ?_ ?_
    · obtain ⟨q, _, rfl⟩ := Option.map_eq_some_iff.mp e
      rfl
    · rintro j v Ha Hb hj sx ⟨rfl, e2⟩ Q1 Q0 q1 q0
      obtain ⟨d1, g1, g2⟩ := DpAll.atV hdn19 e2
      obtain ⟨p, ep, rfl⟩ := map_at g1
      obtain ⟨t1, a1, a2, a3, a4, rfl, hs, c1, c2, c3, c4⟩ := dp4 (dp_same sx _ _ g2)
      cases c2
      refine ⟨rfl, ?_⟩
      refine iteT (B := Q0 Hb) ⟨_, rfl, t1, _, _, _, rfl, rfl, hs, rfl, _, _, rfl, rfl, q1 _ _ (.int (1000 + p.2 - 1000)) ?_ (Same.refl _) (.int _)⟩
      rw [ep]
      rfl
    intro H21 acc1 s21 hacc1 ha1
    rw [lxn, range_at (winds es piece) fun p => PyData.int (1000 + p.2 - 1000)] at ha1
    have eb1 : ((winds es piece).map fun p => PyData.int (1000 + p.2 - 1000)) = ((winds es piece).map (·.2)).map PyData.int := by
      rw [List.map_map]
      refine List.map_congr_left fun p _ => ?_
      show PyData.int (1000 + p.2 - 1000) = PyData.int p.2
      rw [show (1000 : Int) + p.2 - 1000 = p.2 by omega]
    rw [eb1] at ha1
    have ea1 := births_int ha1
    have s1521 := (s1518.trans s19).trans s21
    have s921 := ((s912.trans s13).trans (s14.trans s15)).trans s1521
    refine ⟨_, rfl, _, rfl, _, rfl, mo, _, rfl, .inl (.inl (s921 _ _ hmo)), fun p22 hp22 => ⟨p22, rfl, ⟨_, .inl (.inl upd_same)⟩, fun D23 hD23 => ?_⟩⟩
    rw [cut_last] at hD23 ⊢
    have s22 := same_new (o := .lst xo1) hp22
    have lxo : xo1.length = (winds es piece).reverse.length := by have := DpAll.len hdo1; rwa [List.length_map] at this
    have hdo22 := dps_same (s921.trans s22) _ _ hdo1
    refine lc_data (K := K) (walk_list (xs := xo1)) (fun j => ((winds es piece).reverse[j]?).map fun p => PyData.int (2000 + p.2 - 2000)) hD23 (by rw [lxo, List.length_reverse]; omega) (fun H' s => s.seq (.inl (.inl upd_same))) (fun j _ z e => ?_) ?_ ?_
    · obtain ⟨q, _, rfl⟩ := Option.map_eq_some_iff.mp e
      rfl
    · rintro j v Ha Hb hj sx ⟨rfl, e2⟩ Q1 Q0 q1 q0
      obtain ⟨d1, g1, g2⟩ := DpAll.atV hdo22 e2
      obtain ⟨p, ep, rfl⟩ := map_at g1
      obtain ⟨t1, a1, a2, a3, a4, rfl, hs, c1, c2, c3, c4⟩ := dp4 (dp_same sx _ _ g2)
      cases c2
      refine ⟨rfl, ?_⟩
      refine iteT (B := Q0 Hb) ⟨_, rfl, t1, _, _, _, rfl, rfl, hs, rfl, _, _, rfl, rfl, q1 _ _ (.int (2000 + p.2 - 2000)) ?_ (Same.refl _) (.int _)⟩
      rw [ep]
      rfl
    intro H24 acc2 s24 hacc2 ha2
    rw [lxo, range_at (winds es piece).reverse fun p => PyData.int (2000 + p.2 - 2000)] at ha2
    have eb2 : ((winds es piece).reverse.map fun p => PyData.int (2000 + p.2 - 2000)) = ((winds es piece).map (·.2)).reverse.map PyData.int := by
      rw [← List.map_reverse, List.map_map]
      refine List.map_congr_left fun p _ => ?_
      show PyData.int (2000 + p.2 - 2000) = PyData.int p.2
      rw [show (2000 : Int) + p.2 - 2000 = p.2 by omega]
    rw [eb2] at ha2
    have ea2 := births_int ha2
    refine ⟨D23, acc2, rfl, .inl (.inl hacc2), fun p25 hp25 => ?_⟩
    have s25 := same_new (o := .lst acc2.reverse) hp25
    have s2125 := (s22.trans s24).trans s25
    have eacc : acc2.reverse = ((winds es piece).map (·.2)).map V.int := by
      rw [ea2, ← List.map_reverse, List.reverse_reverse]
    refine ⟨_, _, .lst (.inl (.inl (s2125 _ _ hacc1))) (by rw [ea1]; exact dpAll_ints _), .lst (.inl (.inl upd_same)) (by rw [eacc]; exact dpAll_ints _), PySem.W.shaped_ints _, PySem.W.shaped_ints _, _, rfl, ?_⟩
    rw [ne_intsD]
    refine iteF ?_
    have s1525 := s1521.trans s2125
    have k25 := hh15.kh s1525
    have hh25 := hh15.same s1525
    generalize (upd H24 p25 (.lst acc2.reverse)) = H25 at s2125 s1525 k25 hh25
    have s925 := s921.trans s2125
    have s1625 := ((s1618.trans s19).trans s21).trans s2125
    have hmo25 := s925 _ _ hmo
    have hdo25 := dps_same s925 _ _ hdo
    have hmn25 := s1625 _ _ hmn
    have hdn25 := dps_same s1625 _ _ hdn
    -- more
    refine ⟨_, rfl, _, rfl, h, c, d, 10, es, kvs, n + 1, rfl, hh25, ht15.kp k25 dnh, hk, by omega, by omega, by decide, by decide, fun pm mr H26 k26 hh26 hpm hml hms => ?_⟩
    have hms' : ∀ b ∈ mr, b ∈ es.map (·.1) := fun b hb => by rw [hk]; exact hms b hb
    have m64 : ∀ b ∈ mr, b.natAbs < 64 := fun b hb => h64 b (hms b hb)
    have k1526 := k25.trans k26
    have hmo26 := k26.st _ _ monh hmo25
    have hmn26 := k26.st _ _ mnnh hmn25
    have hdo26 := dps_keep (fun _ _ q => k26.tup q) _ _ (chain_flat cho) hdo25
    have hdn26 := dps_keep (fun _ _ q => k26.tup q) _ _ (chain_flat chn) hdn25
    have frO26 := gk frO15 k1526
    have frP26 := gk frP15 k1526
    have frF26 := gk frF15 k1526
    have ht26 := ht15.kp k1526 dnh
    have frM26 : Fr K H26 pm d mr es kvs := ⟨hpm, ht26, hms', by omega⟩
    clear hdo22 hdn19
    -- first
    refine ⟨_, rfl, _, rfl, _, rfl, po, pp, d, ot, piece, es, kvs, rfl, frO26.fr, by omega, frP26, fun v27 H27 s27 hv27 => ?_⟩
    obtain ⟨chf, tlf, etf⟩ := chain_on (es := es) _ ot piece (Nat.le_refl _) hos' pin (by omega)
    have lnf := onL_len es ot piece
    have chf' := chf
    have lnf' := lnf
    rw [etf] at chf' lnf'
    rw [List.length_cons] at lnf'
    refine ⟨_, rfl, v27, d, es, kvs, tlf, _, rfl, ht26.same s27, hv27, chf', by omega, fun mf xf H28 s28 mf0 hmf hdf => ?_⟩
    rw [← etf] at hdf
    have s2628 := s27.trans s28
    -- second
    refine ⟨_, rfl, _, rfl, ?_⟩
    refine cat_any (frO26.same s2628).fr (frP26.same s2628).fr (by rw [List.length_map, List.length_map]; exact Nat.le_trans (show ot.length + piece.length ≤ 50000 by omega) (by decide)) fun pc H29 s29 hpc29 => ?_
    rw [← List.map_append] at hpc29
    have s2629 := s2628.trans s29
    have opin : ∀ b ∈ ot ++ piece, b ∈ es.map (·.1) := fun b q => by
      rcases List.mem_append.mp q with q | q
      · exact hos' b q
      · exact pin b q
    have op64 : ∀ b ∈ ot ++ piece, b.natAbs < 64 := fun b q => by
      rcases List.mem_append.mp q with q | q
      · exact o64 b q
      · exact p64 b q
    have opl : (ot ++ piece).length = ot.length + piece.length := List.length_append ..
    refine ⟨_, rfl, _, rfl, pc, pm, d, ot ++ piece, mr, es, kvs, rfl, hpc29, by omega, frM26.same s2629, fun v30 H30 s30 hv30 => ?_⟩
    obtain ⟨chs, tls, ets⟩ := chain_on (es := es) _ (ot ++ piece) mr (Nat.le_refl _) opin hms' (by omega)
    have lns := onL_len es (ot ++ piece) mr
    have sms := SmA.lst (sm_onL (es := es) (below := ot ++ piece) (fs := mr) op64 m64 (by omega))
    have chs' := chs
    have lns' := lns
    rw [ets] at chs' lns'
    rw [List.length_cons] at lns'
    have s2630 := s2629.trans s30
    refine ⟨_, rfl, v30, d, es, kvs, tls, _, rfl, ht26.same s2630, hv30, chs', by omega, fun m2 x2 H31 s31 m20 hm2 hd2 => ?_⟩
    rw [← ets] at hd2
    have s2631 := s2630.trans s31
    have s2831 := (s29.trans s30).trans s31
    have hdf31 := dps_same s2831 _ _ hdf
    have hmf31 := s2831 _ _ hmf
    -- both
    obtain ⟨xf1, xf2, rfl, hdf1, hdf2⟩ := dps_split (show DpAll K H31 xf (((winds es piece).map fun p => layStep (1000 + p.2) (ot ++ piece.take p.1.toNat) (piece.drop p.1.toNat)) ++ [arriveD (ot ++ piece)]) from hdf31)
    obtain ⟨uf, rfl⟩ : ∃ u, xf2 = [u] := by
      cases hdf2 with
      | cons u1 u2 =>
        cases u2
        exact ⟨_, rfl⟩
    refine ⟨_, rfl, _, rfl, _, rfl, mf, _, rfl, .inl (.inl hmf31), fun p32 hp32 => ⟨p32, rfl, ⟨_, .inl (.inl upd_same)⟩, fun D33 hD33 => ?_⟩⟩
    rw [cut_last] at hD33 ⊢
    have s32 := same_new (o := .lst xf1) hp32
    have lxf : xf1.length = (winds es piece).length := by have := DpAll.len hdf1; rwa [List.length_map] at this
    have hdf32 := dps_same s32 _ _ hdf1
    have frM31 := frM26.same s2631
    refine lc_data (K := K) (walk_list (xs := xf1)) (fun j => ((winds es piece)[j]?).map fun p => layStep (1000 + p.2) (ot ++ piece.take p.1.toNat) (piece.drop p.1.toNat ++ mr)) hD33 (by omega) (fun H' s => s.seq (.inl (.inl upd_same))) (fun j _ z e => ?_) ?_ ?_
    · obtain ⟨q, _, rfl⟩ := Option.map_eq_some_iff.mp e
      exact flat_lay _ _ _
    · rintro j v Ha Hb hj sx ⟨rfl, e2⟩ Q1 Q0 q1 q0
      obtain ⟨d1, g1, g2⟩ := DpAll.atV hdf32 e2
      obtain ⟨p, ep, rfl⟩ := map_at g1
      obtain ⟨t1, a1, a2, a3, a4, rfl, hs, c1, c2, c3, c4⟩ := dp4 (dp_same sx _ _ g2)
      obtain ⟨r1, ys, rfl, hrs, har⟩ := dp_tup c4
      cases har with
      | cons e1 har =>
        cases har with
        | cons e3 har =>
          cases har
          cases e1
          obtain ⟨g, rfl, hg4⟩ := encF_dp e3
          refine ⟨t1, _, rfl, hs, rfl, _, _, rfl, _, _, rfl, _, _, rfl, _, _, rfl, rfl, wipe4, ?_⟩
          refine iteT (B := Q0 Hb) ⟨_, g17 (by (repeat rw [List.length_set]); exact (by decide : (20 : Nat) < 21)), _, g18 (by (repeat rw [List.length_set]); exact (by decide : (20 : Nat) < 21)), _, g19 (by (repeat rw [List.length_set]); exact (by decide : (20 : Nat) < 21)), _, g20 (by (repeat rw [List.length_set]); exact (by decide : (20 : Nat) < 21)), r1, _, _, _, rfl, rfl, hrs, rfl, _, g13 rfl, ?_⟩
          refine cat_any hg4 (sqt_same (s32.trans sx) frM31.fr) (by rw [List.length_map, List.length_map, List.length_drop]; exact Nat.le_trans (show (piece.length - p.1.toNat) + mr.length ≤ 50000 by omega) (by decide)) fun t4 H5 s5 ht4 => ?_
          rw [← List.map_append] at ht4
          refine ⟨by show 2 ≤ sizeLine; decide, fun t6 ht6 => ⟨by show 4 ≤ sizeLine; decide, fun t7 ht7 => ?_⟩⟩
          have s6 := same_new (o := .tup [.str "on", .ref t4]) ht6
          have s7 := same_new (o := .tup [a1, a2, a3, .ref t6]) ht7
          have s57 := (s5.trans s6).trans s7
          refine q1 _ _ (layStep (1000 + p.2) (ot ++ piece.take p.1.toNat) (piece.drop p.1.toNat ++ mr)) (by rw [ep]; rfl) s57 (.tup (.inl (.inl upd_same)) (.cons (dp_same s57 _ _ c1) (.cons (dp_same s57 _ _ c2) (.cons (dp_same s57 _ _ c3)
            (.cons (.tup (.inl (.inl (s7 _ _ upd_same))) (.cons (.str _) (.cons (dp_encF (sqt_same (s6.trans s7) ht4)) .nil))) .nil)))))
    intro H34 acc3 s34 hacc3 ha3
    rw [lxf, range_at (winds es piece) fun p => layStep (1000 + p.2) (ot ++ piece.take p.1.toNat) (piece.drop p.1.toNat ++ mr)] at ha3
    have l3 := DpAll.len ha3
    rw [List.length_map] at l3
    have l2 := DpAll.len hd2
    have s3134 := s32.trans s34
    refine ⟨_, rfl, D33, m2, acc3, x2, rfl, rfl, hacc3, s3134 _ _ hm2, Nat.le_trans (show acc3.length + x2.length ≤ 50000 by omega) (by decide), fun mb hmb => ?_⟩
    have s35 := same_new (o := .lst (acc3 ++ x2)) hmb
    have hboth := DpAll.app (dps_same s35 _ _ ha3) (dps_same (s3134.trans s35) _ _ hd2)
    rw [← on_both] at hboth
    have hmb1 : (upd H34 mb (.lst (acc3 ++ x2))) mb = some (.lst (acc3 ++ x2)) := upd_same
    have s3135 := s3134.trans s35
    generalize (upd H34 mb (.lst (acc3 ++ x2))) = H35 at hboth hmb1 s3135
    have s2635 := s2631.trans s3135
    -- both at once
    have pmin : ∀ b ∈ piece ++ mr, b ∈ es.map (·.1) := fun b q => by
      rcases List.mem_append.mp q with q | q
      · exact pin b q
      · exact hms' b q
    have pm64 : ∀ b ∈ piece ++ mr, b.natAbs < 64 := fun b q => by
      rcases List.mem_append.mp q with q | q
      · exact p64 b q
      · exact m64 b q
    have pml : (piece ++ mr).length = piece.length + mr.length := List.length_append ..
    refine ⟨_, rfl, _, rfl, _, rfl, ?_⟩
    refine cat_any (frP26.same s2635).fr (frM26.same s2635).fr (by rw [List.length_map, List.length_map]; exact Nat.le_trans (show piece.length + mr.length ≤ 50000 by omega) (by decide)) fun pq H36 s36 hpq36 => ?_
    rw [← List.map_append] at hpq36
    have s2636 := s2635.trans s36
    refine ⟨_, rfl, po, pq, d, ot, piece ++ mr, es, kvs, rfl, (frO26.same s2636).fr, by omega, ⟨hpq36, ht26.same s2636, pmin, by omega⟩, fun v37 H37 s37 hv37 => ?_⟩
    obtain ⟨chb, tlb, etb⟩ := chain_on (es := es) _ ot (piece ++ mr) (Nat.le_refl _) hos' pmin (by omega)
    have lnb := onL_len es ot (piece ++ mr)
    have smb := SmA.lst (sm_onL (es := es) (below := ot) (fs := piece ++ mr) o64 pm64 (by omega))
    have chb' := chb
    have lnb' := lnb
    rw [etb] at chb' lnb'
    rw [List.length_cons] at lnb'
    have s2637 := s2636.trans s37
    refine ⟨_, rfl, v37, d, es, kvs, tlb, _, rfl, ht26.same s2637, hv37, chb', by omega, fun m38 x38 H38 s38 _ hm38 hd38 => ?_⟩
    rw [← etb] at hd38
    have s3538 := (s36.trans s37).trans s38
    have r38 := smb.rok (by decide) (by decide) (K := K) (H := H38) (x := .ref m38) (.inl (.lst (.inl (.inl hm38)) hd38))
    have r39 := smb.rok (by decide) (by decide) (K := K) (H := H38) (x := .ref mb) (.inl (.lst (.inl (.inl (s3538 _ _ hmb1))) (dps_same s3538 _ _ hboth)))
    refine ⟨_, _, rfl, r38.1, r38.2.1, r38.2.2.1, r38.2.2.2, ?_⟩
    refine ⟨_, rfl, _, _, rfl, r39.1, r39.2.1, r39.2.2.1, r39.2.2.2, rfl, _, rfl, ?_⟩
    rw [ne_same]
    refine iteF ?_
    have s2638 := s2635.trans s3538
    have s3138 := s3135.trans s3538
    -- second by the law's own
    have r40 := sms.rok (by decide) (by decide) (K := K) (H := H38) (x := .ref m2) (.inl (.lst (.inl (.inl (s3138 _ _ hm2))) (dps_same s3138 _ _ hd2)))
    refine ⟨_, rfl, _, _, rfl, r40.1, r40.2.1, r40.2.2.1, r40.2.2.2, ?_⟩
    refine ⟨_, rfl, _, rfl, ?_⟩
    refine cat_any (frO26.same s2638).fr (frP26.same s2638).fr (by rw [List.length_map, List.length_map]; exact Nat.le_trans (show ot.length + piece.length ≤ 50000 by omega) (by decide)) fun pd H41 s41 hpd41 => ?_
    rw [← List.map_append] at hpd41
    have s2641 := s2638.trans s41
    refine ⟨_, rfl, _, rfl, pd, pm, d, ot ++ piece, mr, es, kvs, rfl, hpd41, by omega, frM26.same s2641, fun m42 x42 H42 s42 _ hm42 hd42 => ?_⟩
    have r42 := sms.rok (by decide) (by decide) (K := K) (H := H42) (x := .ref m42) (.inl (.lst (.inl (.inl hm42)) hd42))
    refine ⟨_, _, rfl, r42.1, r42.2.1, r42.2.2.1, r42.2.2.2, rfl, _, rfl, ?_⟩
    rw [ne_same]
    refine iteF ?_
    have s2642 := s2641.trans s42
    have hh42 := hh26.same s2642
    -- elsewhere
    refine ⟨_, rfl, _, rfl, _, rfl, _, rfl, h, c, d, mo, po, es, kvs, n + 1, _, _, ot, rfl, hh42, s2642 _ _ hmo26, monh, dps_same s2642 _ _ hdo26, offL_ok, fun e => ?_, by omega, frO26.same s2642, by omega, hk, by omega, fun H43 k43 hh43 => ⟨true, rfl, ?_⟩⟩
    · rw [e] at cho
      exact cho
    refine iteF ?_
    have kk43 := (hh26.kh s2642).trans k43
    have frO43 : Fr K H43 po d ot es kvs := ⟨kk43.tup frO26.fr, ht26.kp kk43 dnh, frO26.ins, frO26.len⟩
    have frF43 : Fr K H43 pf d fs es kvs := ⟨kk43.tup frF26.fr, ht26.kp kk43 dnh, frF26.ins, frF26.len⟩
    refine ⟨_, rfl, _, rfl, _, rfl, _, rfl, h, c, d, mn, po, es, kvs, n + 1, _, _, ot, rfl, hh43, kk43.st _ _ mnnh hmn26, mnnh, dps_keep (fun _ _ q => kk43.tup q) _ _ (chain_flat chn) hdn26, onL_ok pin (by omega), fun e => ?_, by omega, frO43, by omega, hk, by omega, fun H44 k44 hh44 => ⟨true, rfl, ?_⟩⟩
    · rw [e] at chn
      exact chn
    refine iteF ?_
    have ht43 := frO43.th
    have frO44 : Fr K H44 po d ot es kvs := ⟨k44.tup frO43.fr, ht43.kp k44 dnh, frO43.ins, frO43.len⟩
    have frF44 : Fr K H44 pf d fs es kvs := ⟨k44.tup frF43.fr, ht43.kp k44 dnh, frF43.ins, frF43.len⟩
    refine ⟨_, rfl, _, rfl, _, rfl, _, rfl, h, c, d, pf, po, fs, ot, es, kvs, n + 1, rfl, hh44, frF44, frO44, hk, by omega, fun H45 k45 hh45 => ⟨true, rfl, ?_⟩⟩
    refine iteF ?_
    have ht45 := frO44.th.kp k45 dnh
    have re := ht45.rok hk (by omega)
    refine ⟨_, rfl, _, _, rfl, re.1, re.2.1, re.2.2.1, re.2.2.2, _, rfl, rfl, _, rfl, ?_⟩
    rw [ne_same]
    exact iteF ⟨_, _, _, _, _, _, _, _, _, _, _, _, _, _, rfl, hh45⟩
end
end K11

namespace K11
open PySem L2 Cm
theorem at_mk {K : PySem.W.Frag} {h : Heap} {mg : Str → Option Value} {x : Str} {st : Stmt} {ps : List Str} {f : Addr} {oc : Value} {od an : Option Addr} {osl : Array (Option Value)} {kV doc pm cdv ct : Value} (X : K.In h) (G : h.Ns mainGlobals mg)
    (a : PySem.W.nsIn K mainGlobals x = some (some (.ref f))) (l : K.lookup f = some ⟨oc, od, .func (PySem.W.fnOf x x (defArgs st) (defBody st) (defScope st) .none kV doc pm an cdv ct), osl⟩) (c : PySem.W.codeIn K cdv x = true) (k : PySem.W.keepIn K (.ref f) = true)
    (b : ∀ (kV doc pm : Value) (an : Option Addr) (cdv ct : Value) (us : List Value), us.length = ps.length → bindArgs (PySem.W.fnOf x x (defArgs st) (defBody st) (defScope st) .none kV doc pm an cdv ct) ⟨us, []⟩ = pure (ps.zip us)) : At K mg x st ps :=
  ⟨_, _, fun_mk l c k, PySem.W.mg_of X G a, (fun_mk l c k).binds b⟩
theorem all_mk {l : PySem.W.OpenLaw} {w : World} {K : PySem.W.Frag} {h : Heap} {mg : Str → Option Value} {fa f0 f1 f2 f3 f4 f5 f6 f7 f8 f9 f10 f11 f12 f13 f14 f15 f16 f17 f18 f19 f20 : Addr} (X : K.In h) (G : h.Ns mainGlobals mg) (hfa : mg "law" = some (.ref fa))
    {od0 an0 : Option Addr} {sl0 : Array (Option Value)} {oc0 kV0 dc0 pm0 cd0 ct0 : Value} (a0 : PySem.W.nsIn K mainGlobals "_law_mix" = some (some (.ref f0))) (l0 : K.lookup f0 = some ⟨oc0, od0, .func (PySem.W.fnOf "_law_mix" "_law_mix" (defArgs s_l_mix) (defBody s_l_mix) (defScope s_l_mix) .none kV0 dc0 pm0 an0 cd0 ct0), sl0⟩) (c0 : PySem.W.codeIn K cd0 "_law_mix" = true) (k0 : PySem.W.keepIn K (.ref f0) = true)
    {od1 an1 : Option Addr} {sl1 : Array (Option Value)} {oc1 kV1 dc1 pm1 cd1 ct1 : Value} (a1 : PySem.W.nsIn K mainGlobals "_law_hand" = some (some (.ref f1))) (l1 : K.lookup f1 = some ⟨oc1, od1, .func (PySem.W.fnOf "_law_hand" "_law_hand" (defArgs s_l_hand) (defBody s_l_hand) (defScope s_l_hand) .none kV1 dc1 pm1 an1 cd1 ct1), sl1⟩) (c1 : PySem.W.codeIn K cd1 "_law_hand" = true) (k1 : PySem.W.keepIn K (.ref f1) = true)
    {od2 an2 : Option Addr} {sl2 : Array (Option Value)} {oc2 kV2 dc2 pm2 cd2 ct2 : Value} (a2 : PySem.W.nsIn K mainGlobals "_law_draw" = some (some (.ref f2))) (l2 : K.lookup f2 = some ⟨oc2, od2, .func (PySem.W.fnOf "_law_draw" "_law_draw" (defArgs s_l_draw) (defBody s_l_draw) (defScope s_l_draw) .none kV2 dc2 pm2 an2 cd2 ct2), sl2⟩) (c2 : PySem.W.codeIn K cd2 "_law_draw" = true) (k2 : PySem.W.keepIn K (.ref f2) = true)
    {od3 an3 : Option Addr} {sl3 : Array (Option Value)} {oc3 kV3 dc3 pm3 cd3 ct3 : Value} (a3 : PySem.W.nsIn K mainGlobals "_law_pick" = some (some (.ref f3))) (l3 : K.lookup f3 = some ⟨oc3, od3, .func (PySem.W.fnOf "_law_pick" "_law_pick" (defArgs s_l_pick) (defBody s_l_pick) (defScope s_l_pick) .none kV3 dc3 pm3 an3 cd3 ct3), sl3⟩) (c3 : PySem.W.codeIn K cd3 "_law_pick" = true) (k3 : PySem.W.keepIn K (.ref f3) = true)
    {od4 an4 : Option Addr} {sl4 : Array (Option Value)} {oc4 kV4 dc4 pm4 cd4 ct4 : Value} (a4 : PySem.W.nsIn K mainGlobals "_law_things" = some (some (.ref f4))) (l4 : K.lookup f4 = some ⟨oc4, od4, .func (PySem.W.fnOf "_law_things" "_law_things" (defArgs s_l_things) (defBody s_l_things) (defScope s_l_things) .none kV4 dc4 pm4 an4 cd4 ct4), sl4⟩) (c4 : PySem.W.codeIn K cd4 "_law_things" = true) (k4 : PySem.W.keepIn K (.ref f4) = true)
    {od5 an5 : Option Addr} {sl5 : Array (Option Value)} {oc5 kV5 dc5 pm5 cd5 ct5 : Value} (a5 : PySem.W.nsIn K mainGlobals "_law_row" = some (some (.ref f5))) (l5 : K.lookup f5 = some ⟨oc5, od5, .func (PySem.W.fnOf "_law_row" "_law_row" (defArgs s_l_row) (defBody s_l_row) (defScope s_l_row) .none kV5 dc5 pm5 an5 cd5 ct5), sl5⟩) (c5 : PySem.W.codeIn K cd5 "_law_row" = true) (k5 : PySem.W.keepIn K (.ref f5) = true)
    {od6 an6 : Option Addr} {sl6 : Array (Option Value)} {oc6 kV6 dc6 pm6 cd6 ct6 : Value} (a6 : PySem.W.nsIn K mainGlobals "winds_of" = some (some (.ref f6))) (l6 : K.lookup f6 = some ⟨oc6, od6, .func (PySem.W.fnOf "winds_of" "winds_of" (defArgs s_p_winds_of) (defBody s_p_winds_of) (defScope s_p_winds_of) .none kV6 dc6 pm6 an6 cd6 ct6), sl6⟩) (c6 : PySem.W.codeIn K cd6 "winds_of" = true) (k6 : PySem.W.keepIn K (.ref f6) = true)
    {od7 an7 : Option Addr} {sl7 : Array (Option Value)} {oc7 kV7 dc7 pm7 cd7 ct7 : Value} (a7 : PySem.W.nsIn K mainGlobals "_law_winds_of" = some (some (.ref f7))) (l7 : K.lookup f7 = some ⟨oc7, od7, .func (PySem.W.fnOf "_law_winds_of" "_law_winds_of" (defArgs s_l_winds_of) (defBody s_l_winds_of) (defScope s_l_winds_of) .none kV7 dc7 pm7 an7 cd7 ct7), sl7⟩) (c7 : PySem.W.codeIn K cd7 "_law_winds_of" = true) (k7 : PySem.W.keepIn K (.ref f7) = true)
    {od8 an8 : Option Addr} {sl8 : Array (Option Value)} {oc8 kV8 dc8 pm8 cd8 ct8 : Value} (a8 : PySem.W.nsIn K mainGlobals "_shared_many" = some (some (.ref f8))) (l8 : K.lookup f8 = some ⟨oc8, od8, .func (PySem.W.fnOf "_shared_many" "_shared_many" (defArgs s_p_shared_many) (defBody s_p_shared_many) (defScope s_p_shared_many) .none kV8 dc8 pm8 an8 cd8 ct8), sl8⟩) (c8 : PySem.W.codeIn K cd8 "_shared_many" = true) (k8 : PySem.W.keepIn K (.ref f8) = true)
    {od9 an9 : Option Addr} {sl9 : Array (Option Value)} {oc9 kV9 dc9 pm9 cd9 ct9 : Value} (a9 : PySem.W.nsIn K mainGlobals "deeds_of_way" = some (some (.ref f9))) (l9 : K.lookup f9 = some ⟨oc9, od9, .func (PySem.W.fnOf "deeds_of_way" "deeds_of_way" (defArgs s_p_deeds_of_way) (defBody s_p_deeds_of_way) (defScope s_p_deeds_of_way) .none kV9 dc9 pm9 an9 cd9 ct9), sl9⟩) (c9 : PySem.W.codeIn K cd9 "deeds_of_way" = true) (k9 : PySem.W.keepIn K (.ref f9) = true)
    {od10 an10 : Option Addr} {sl10 : Array (Option Value)} {oc10 kV10 dc10 pm10 cd10 ct10 : Value} (a10 : PySem.W.nsIn K mainGlobals "mark_cut" = some (some (.ref f10))) (l10 : K.lookup f10 = some ⟨oc10, od10, .func (PySem.W.fnOf "mark_cut" "mark_cut" (defArgs s_p_mark_cut) (defBody s_p_mark_cut) (defScope s_p_mark_cut) .none kV10 dc10 pm10 an10 cd10 ct10), sl10⟩) (c10 : PySem.W.codeIn K cd10 "mark_cut" = true) (k10 : PySem.W.keepIn K (.ref f10) = true)
    {od11 an11 : Option Addr} {sl11 : Array (Option Value)} {oc11 kV11 dc11 pm11 cd11 ct11 : Value} (a11 : PySem.W.nsIn K mainGlobals "_step_to" = some (some (.ref f11))) (l11 : K.lookup f11 = some ⟨oc11, od11, .func (PySem.W.fnOf "_step_to" "_step_to" (defArgs s_p_step_to) (defBody s_p_step_to) (defScope s_p_step_to) .none kV11 dc11 pm11 an11 cd11 ct11), sl11⟩) (c11 : PySem.W.codeIn K cd11 "_step_to" = true) (k11 : PySem.W.keepIn K (.ref f11) = true)
    {od12 an12 : Option Addr} {sl12 : Array (Option Value)} {oc12 kV12 dc12 pm12 cd12 ct12 : Value} (a12 : PySem.W.nsIn K mainGlobals "next_step" = some (some (.ref f12))) (l12 : K.lookup f12 = some ⟨oc12, od12, .func (PySem.W.fnOf "next_step" "next_step" (defArgs s_p_next_step) (defBody s_p_next_step) (defScope s_p_next_step) .none kV12 dc12 pm12 an12 cd12 ct12), sl12⟩) (c12 : PySem.W.codeIn K cd12 "next_step" = true) (k12 : PySem.W.keepIn K (.ref f12) = true)
    {od13 an13 : Option Addr} {sl13 : Array (Option Value)} {oc13 kV13 dc13 pm13 cd13 ct13 : Value} (a13 : PySem.W.nsIn K mainGlobals "lay_on" = some (some (.ref f13))) (l13 : K.lookup f13 = some ⟨oc13, od13, .func (PySem.W.fnOf "lay_on" "lay_on" (defArgs s_p_lay_on) (defBody s_p_lay_on) (defScope s_p_lay_on) .none kV13 dc13 pm13 an13 cd13 ct13), sl13⟩) (c13 : PySem.W.codeIn K cd13 "lay_on" = true) (k13 : PySem.W.keepIn K (.ref f13) = true)
    {od14 an14 : Option Addr} {sl14 : Array (Option Value)} {oc14 kV14 dc14 pm14 cd14 ct14 : Value} (a14 : PySem.W.nsIn K mainGlobals "_step_off" = some (some (.ref f14))) (l14 : K.lookup f14 = some ⟨oc14, od14, .func (PySem.W.fnOf "_step_off" "_step_off" (defArgs s_p_step_off) (defBody s_p_step_off) (defScope s_p_step_off) .none kV14 dc14 pm14 an14 cd14 ct14), sl14⟩) (c14 : PySem.W.codeIn K cd14 "_step_off" = true) (k14 : PySem.W.keepIn K (.ref f14) = true)
    {od15 an15 : Option Addr} {sl15 : Array (Option Value)} {oc15 kV15 dc15 pm15 cd15 ct15 : Value} (a15 : PySem.W.nsIn K mainGlobals "_law_off_steps" = some (some (.ref f15))) (l15 : K.lookup f15 = some ⟨oc15, od15, .func (PySem.W.fnOf "_law_off_steps" "_law_off_steps" (defArgs s_l_off_steps) (defBody s_l_off_steps) (defScope s_l_off_steps) .none kV15 dc15 pm15 an15 cd15 ct15), sl15⟩) (c15 : PySem.W.codeIn K cd15 "_law_off_steps" = true) (k15 : PySem.W.keepIn K (.ref f15) = true)
    {od16 an16 : Option Addr} {sl16 : Array (Option Value)} {oc16 kV16 dc16 pm16 cd16 ct16 : Value} (a16 : PySem.W.nsIn K mainGlobals "_law_on_steps" = some (some (.ref f16))) (l16 : K.lookup f16 = some ⟨oc16, od16, .func (PySem.W.fnOf "_law_on_steps" "_law_on_steps" (defArgs s_l_on_steps) (defBody s_l_on_steps) (defScope s_l_on_steps) .none kV16 dc16 pm16 an16 cd16 ct16), sl16⟩) (c16 : PySem.W.codeIn K cd16 "_law_on_steps" = true) (k16 : PySem.W.keepIn K (.ref f16) = true)
    {od17 an17 : Option Addr} {sl17 : Array (Option Value)} {oc17 kV17 dc17 pm17 cd17 ct17 : Value} (a17 : PySem.W.nsIn K mainGlobals "_law_walked" = some (some (.ref f17))) (l17 : K.lookup f17 = some ⟨oc17, od17, .func (PySem.W.fnOf "_law_walked" "_law_walked" (defArgs s_l_walked) (defBody s_l_walked) (defScope s_l_walked) .none kV17 dc17 pm17 an17 cd17 ct17), sl17⟩) (c17 : PySem.W.codeIn K cd17 "_law_walked" = true) (k17 : PySem.W.keepIn K (.ref f17) = true)
    {od18 an18 : Option Addr} {sl18 : Array (Option Value)} {oc18 kV18 dc18 pm18 cd18 ct18 : Value} (a18 : PySem.W.nsIn K mainGlobals "_law_elsewhere" = some (some (.ref f18))) (l18 : K.lookup f18 = some ⟨oc18, od18, .func (PySem.W.fnOf "_law_elsewhere" "_law_elsewhere" (defArgs s_l_elsewhere) (defBody s_l_elsewhere) (defScope s_l_elsewhere) .none kV18 dc18 pm18 an18 cd18 ct18), sl18⟩) (c18 : PySem.W.codeIn K cd18 "_law_elsewhere" = true) (k18 : PySem.W.keepIn K (.ref f18) = true)
    {od19 an19 : Option Addr} {sl19 : Array (Option Value)} {oc19 kV19 dc19 pm19 cd19 ct19 : Value} (a19 : PySem.W.nsIn K mainGlobals "_law_to_elsewhere" = some (some (.ref f19))) (l19 : K.lookup f19 = some ⟨oc19, od19, .func (PySem.W.fnOf "_law_to_elsewhere" "_law_to_elsewhere" (defArgs s_l_to_elsewhere) (defBody s_l_to_elsewhere) (defScope s_l_to_elsewhere) .none kV19 dc19 pm19 an19 cd19 ct19), sl19⟩) (c19 : PySem.W.codeIn K cd19 "_law_to_elsewhere" = true) (k19 : PySem.W.keepIn K (.ref f19) = true)
    {od20 an20 : Option Addr} {sl20 : Array (Option Value)} {oc20 kV20 dc20 pm20 cd20 ct20 : Value} (a20 : PySem.W.nsIn K mainGlobals "law" = some (some (.ref f20))) (l20 : K.lookup f20 = some ⟨oc20, od20, .func (PySem.W.fnOf "law" "law" (defArgs s_law) (defBody s_law) (defScope s_law) .none kV20 dc20 pm20 an20 cd20 ct20), sl20⟩) (c20 : PySem.W.codeIn K cd20 "law" = true) (k20 : PySem.W.keepIn K (.ref f20) = true)
    (z_abs : PySem.W.nsIn K mainGlobals "abs" = some none)
    (z_enumerate : PySem.W.nsIn K mainGlobals "enumerate" = some none)
    (z_int : PySem.W.nsIn K mainGlobals "int" = some none)
    (z_len : PySem.W.nsIn K mainGlobals "len" = some none)
    (z_max : PySem.W.nsIn K mainGlobals "max" = some none)
    (z_min : PySem.W.nsIn K mainGlobals "min" = some none)
    (z_range : PySem.W.nsIn K mainGlobals "range" = some none)
    (z_repr : PySem.W.nsIn K mainGlobals "repr" = some none)
    (z_sorted : PySem.W.nsIn K mainGlobals "sorted" = some none)
    (z_tuple : PySem.W.nsIn K mainGlobals "tuple" = some none)
    (z_zip : PySem.W.nsIn K mainGlobals "zip" = some none)
    (z_isinstance : PySem.W.nsIn K mainGlobals "isinstance" = some none)
    : ∃ fd : FuncData, (∀ (s : Shared) (v : Value), BindsTo s fd ⟨[v], []⟩ [("_law_script", v)]) ∧ ∀ base : Heap, K.In base → base.Ns mainGlobals mg → LawAt l.prog w K mg base 7 fa fd ["_law_script"] (spLaw K) := by
  have e := hfa.symm.trans (PySem.W.mg_of X G a20)
  cases e
  have T : Txt mg := ⟨PySem.W.mg_none_of X G z_abs, PySem.W.mg_none_of X G z_enumerate, PySem.W.mg_none_of X G z_int, PySem.W.mg_none_of X G z_len, PySem.W.mg_none_of X G z_max, PySem.W.mg_none_of X G z_min, PySem.W.mg_none_of X G z_range, PySem.W.mg_none_of X G z_repr, PySem.W.mg_none_of X G z_sorted, PySem.W.mg_none_of X G z_tuple, PySem.W.mg_none_of X G z_zip⟩
  have D_mix := at_mk (st := s_l_mix) (ps := ["_law_number", "_law_turn"]) X G a0 l0 c0 k0 fun _ _ _ _ _ _ us hl => match us, hl with | [_, _], _ => rfl
  have D_hand := at_mk (st := s_l_hand) (ps := ["_law_script"]) X G a1 l1 c1 k1 fun _ _ _ _ _ _ us hl => match us, hl with | [_], _ => rfl
  have D_draw := at_mk (st := s_l_draw) (ps := ["_law_hand_here", "_law_many"]) X G a2 l2 c2 k2 fun _ _ _ _ _ _ us hl => match us, hl with | [_, _], _ => rfl
  have D_pick := at_mk (st := s_l_pick) (ps := ["_law_hand_here", "_law_things_here"]) X G a3 l3 c3 k3 fun _ _ _ _ _ _ us hl => match us, hl with | [_, _], _ => rfl
  have D_things := at_mk (st := s_l_things) (ps := ["_law_hand_here", "_law_many"]) X G a4 l4 c4 k4 fun _ _ _ _ _ _ us hl => match us, hl with | [_, _], _ => rfl
  have D_row := at_mk (st := s_l_row) (ps := ["_law_hand_here", "_law_things_here", "_law_most"]) X G a5 l5 c5 k5 fun _ _ _ _ _ _ us hl => match us, hl with | [_, _, _], _ => rfl
  have D_pw := at_mk (st := s_p_winds_of) (ps := ["frames", "things"]) X G a6 l6 c6 k6 fun _ _ _ _ _ _ us hl => match us, hl with | [_, _], _ => rfl
  have D_lw := at_mk (st := s_l_winds_of) (ps := ["_law_frames", "_law_things_here"]) X G a7 l7 c7 k7 fun _ _ _ _ _ _ us hl => match us, hl with | [_, _], _ => rfl
  have D_sm := at_mk (st := s_p_shared_many) (ps := ["left", "entered"]) X G a8 l8 c8 k8 fun _ _ _ _ _ _ us hl => match us, hl with | [_, _], _ => rfl
  have D_pd := at_mk (st := s_p_deeds_of_way) (ps := ["present", "goal", "things"]) X G a9 l9 c9 k9 fun _ _ _ _ _ _ us hl => match us, hl with | [_, _, _], _ => rfl
  have D_mc := at_mk (st := s_p_mark_cut) (ps := ["frames", "things"]) X G a10 l10 c10 k10 fun _ _ _ _ _ _ us hl => match us, hl with | [_, _], _ => rfl
  have D_st := at_mk (st := s_p_step_to) (ps := ["below", "frames", "number", "things"]) X G a11 l11 c11 k11 fun _ _ _ _ _ _ us hl => match us, hl with | [_, _, _, _], _ => rfl
  have D_ns := at_mk (st := s_p_next_step) (ps := ["below", "road", "things"]) X G a12 l12 c12 k12 fun _ _ _ _ _ _ us hl => match us, hl with | [_, _, _], _ => rfl
  have D_lo := at_mk (st := s_p_lay_on) (ps := ["below", "frames", "things"]) X G a13 l13 c13 k13 fun _ _ _ _ _ _ us hl => match us, hl with | [_, _, _], _ => rfl
  have D_so := at_mk (st := s_p_step_off) (ps := ["below", "things"]) X G a14 l14 c14 k14 fun _ _ _ _ _ _ us hl => match us, hl with | [_, _], _ => rfl
  have D_of := at_mk (st := s_l_off_steps) (ps := ["_law_frames", "_law_things_here"]) X G a15 l15 c15 k15 fun _ _ _ _ _ _ us hl => match us, hl with | [_, _], _ => rfl
  have D_on := at_mk (st := s_l_on_steps) (ps := ["_law_below", "_law_frames", "_law_things_here"]) X G a16 l16 c16 k16 fun _ _ _ _ _ _ us hl => match us, hl with | [_, _, _], _ => rfl
  have D_wk := at_mk (st := s_l_walked) (ps := ["_law_step", "_law_things_here", "_law_most"]) X G a17 l17 c17 k17 fun _ _ _ _ _ _ us hl => match us, hl with | [_, _, _], _ => rfl
  have D_el := at_mk (st := s_l_elsewhere) (ps := ["_law_hand_here", "_law_things_here", "_law_steps", "_law_other"]) X G a18 l18 c18 k18 fun _ _ _ _ _ _ us hl => match us, hl with | [_, _, _, _], _ => rfl
  have D_te := at_mk (st := s_l_to_elsewhere) (ps := ["_law_hand_here", "_law_things_here", "_law_goal", "_law_other"]) X G a19 l19 c19 k19 fun _ _ _ _ _ _ us hl => match us, hl with | [_, _, _, _], _ => rfl
  refine ⟨PySem.W.fnOf "law" "law" (defArgs s_law) (defBody s_law) (defScope s_law) .none kV20 dc20 pm20 an20 cd20 ct20, fun s v => .of_eq rfl, fun base _ _ => ?_⟩
  have c1 := ok_mix (P := l.prog) (w := w) (base := base) T D_mix
  have c2 := ok_draw T c1 D_draw
  have c3 := ok_pick T c2 D_pick
  have c4 := ok_row T c2 c3 D_row
  have c5 := ok_pwinds (P := l.prog) (w := w) (base := base) T D_pw
  have c6 := ok_shared_many (P := l.prog) (w := w) (base := base) T D_sm
  have c7 := ok_lwinds (P := l.prog) (w := w) (base := base) T D_lw
  have c8 := ok_pdeeds T c5 c6 D_pd
  have c9 := ok_mark_cut (P := l.prog) (w := w) (base := base) T D_mc
  have c10 := ok_lay_on T c5 D_lo
  have c11 := ok_next T (ok_step_to T c5 c8 D_st) c10 (ok_step_off T c5 c9 D_so) D_ns
  have hI : mg "isinstance" = none := PySem.W.mg_none_of X G z_isinstance
  have c12 := ok_walked T hI c11 D_wk
  have c13 := ok_offL T c7 D_of
  have c14 := ok_on c7 D_on
  exact ok_law T ⟨ok_hand T D_hand, c2, c3, ok_things T c2 c3 D_things, c4, c13, c14, c12, ok_else T c3 c12 c11 c13 c14 D_el, ok_to T c2 c7 c11 D_te, c10, c9, c11⟩ (fun_mk (st := s_law) l20 c20 k20)
theorem walk {l : PySem.W.OpenLaw} {q : Program} {loose : List Str} {XP : (Str → Option Value) → Heap → Prop} {YP : World → Heap → Prop} {d : DefRec} {K : Params → PySem.W.Frag} (hn : l.most = some 63) (hdf : d.params.defaults = [])
    (hY : ∀ (w : World) (h : Heap), YP w h → (K w.params).In h)
    (F : ∀ (w : World) (mg : Str → Option Value) (fa : Addr) (h : Heap), (K w.params).In h → h.Ns mainGlobals mg → mg d.name = some (.ref fa) →
      ∃ fd : FuncData, (∀ (s : Shared) (u : Value), BindsTo s fd ⟨[u], []⟩ [("_law_script", u)]) ∧ ∀ base : Heap, (K w.params).In base → base.Ns mainGlobals mg → LawAt l.prog w (K w.params) mg base 7 fa fd ["_law_script"] (spLaw (K w.params))) :
    PySem.W.WalkO q loose XP YP l.row.toRowW d [] (fun f vs => PySem.call f vs) :=
  walk_law (n := 63) (k := 7) (x := "_law_script") (sp := fun K => spLaw K) hn (by decide) hdf ⟨rfl, by decide, by decide⟩ hY F fun _ _ a ns hl _ hS => ⟨a, ns, rfl, hS, hl, fun _ => rfl⟩
end K11

open PySem PySem.W PyProof.Rows in
set_option maxRecDepth 100000 in
set_option maxHeartbeats 0 in
theorem PySem.Challenge.cw_goonagain_k11_whole_laying_on_and_taking_holds : PySem.Challenge.rw_goonagain_k11_whole_laying_on_and_taking.Holds := by
  w_on; o_law; k_head; (case hw => w_witness2)
  k_fill
  refine K11.walk (l := PySem.Challenge.rw_goonagain_k11_whole_laying_on_and_taking) rfl rfl (fun w h Y => PySem.W.kIn_of Y) ?F
  case F =>
    intro w mg fa h KX G hmg
    refine' K11.all_mk KX G hmg ?a0 ?l0 ?c0 ?k0 ?a1 ?l1 ?c1 ?k1 ?a2 ?l2 ?c2 ?k2 ?a3 ?l3 ?c3 ?k3 ?a4 ?l4 ?c4 ?k4 ?a5 ?l5 ?c5 ?k5 ?a6 ?l6 ?c6 ?k6 ?a7 ?l7 ?c7 ?k7 ?a8 ?l8 ?c8 ?k8 ?a9 ?l9 ?c9 ?k9 ?a10 ?l10 ?c10 ?k10 ?a11 ?l11 ?c11 ?k11 ?a12 ?l12 ?c12 ?k12 ?a13 ?l13 ?c13 ?k13 ?a14 ?l14 ?c14 ?k14 ?a15 ?l15 ?c15 ?k15 ?a16 ?l16 ?c16 ?k16 ?a17 ?l17 ?c17 ?k17 ?a18 ?l18 ?c18 ?k18 ?a19 ?l19 ?c19 ?k19 ?a20 ?l20 ?c20 ?k20 ?z_abs ?z_enumerate ?z_int ?z_len ?z_max ?z_min ?z_range ?z_repr ?z_sorted ?z_tuple ?z_zip ?z_isinstance
    (case a0 => k_is)
    (case l0 => k_is)
    (case c0 => k_is)
    (case k0 => k_is)
    (case a1 => k_is)
    (case l1 => k_is)
    (case c1 => k_is)
    (case k1 => k_is)
    (case a2 => k_is)
    (case l2 => k_is)
    (case c2 => k_is)
    (case k2 => k_is)
    (case a3 => k_is)
    (case l3 => k_is)
    (case c3 => k_is)
    (case k3 => k_is)
    (case a4 => k_is)
    (case l4 => k_is)
    (case c4 => k_is)
    (case k4 => k_is)
    (case a5 => k_is)
    (case l5 => k_is)
    (case c5 => k_is)
    (case k5 => k_is)
    (case a6 => k_is)
    (case l6 => k_is)
    (case c6 => k_is)
    (case k6 => k_is)
    (case a7 => k_is)
    (case l7 => k_is)
    (case c7 => k_is)
    (case k7 => k_is)
    (case a8 => k_is)
    (case l8 => k_is)
    (case c8 => k_is)
    (case k8 => k_is)
    (case a9 => k_is)
    (case l9 => k_is)
    (case c9 => k_is)
    (case k9 => k_is)
    (case a10 => k_is)
    (case l10 => k_is)
    (case c10 => k_is)
    (case k10 => k_is)
    (case a11 => k_is)
    (case l11 => k_is)
    (case c11 => k_is)
    (case k11 => k_is)
    (case a12 => k_is)
    (case l12 => k_is)
    (case c12 => k_is)
    (case k12 => k_is)
    (case a13 => k_is)
    (case l13 => k_is)
    (case c13 => k_is)
    (case k13 => k_is)
    (case a14 => k_is)
    (case l14 => k_is)
    (case c14 => k_is)
    (case k14 => k_is)
    (case a15 => k_is)
    (case l15 => k_is)
    (case c15 => k_is)
    (case k15 => k_is)
    (case a16 => k_is)
    (case l16 => k_is)
    (case c16 => k_is)
    (case k16 => k_is)
    (case a17 => k_is)
    (case l17 => k_is)
    (case c17 => k_is)
    (case k17 => k_is)
    (case a18 => k_is)
    (case l18 => k_is)
    (case c18 => k_is)
    (case k18 => k_is)
    (case a19 => k_is)
    (case l19 => k_is)
    (case c19 => k_is)
    (case k19 => k_is)
    (case a20 => k_is)
    (case l20 => k_is)
    (case c20 => k_is)
    (case k20 => k_is)
    (case z_abs => k_is)
    (case z_enumerate => k_is)
    (case z_int => k_is)
    (case z_len => k_is)
    (case z_max => k_is)
    (case z_min => k_is)
    (case z_range => k_is)
    (case z_repr => k_is)
    (case z_sorted => k_is)
    (case z_tuple => k_is)
    (case z_zip => k_is)
    (case z_isinstance => k_is)
