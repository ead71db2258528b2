import PyProof.Rows.All
import Wide.All
import OpenK.AllK
import Wide.FinOn
import HandS.ForMost
import HandS.Codes
import HandS.Wide
import HandS.TupAny
import HandS.Conv
import HandS.RevRange
import HandS.SortInts
import HandS.RaiseMore
import HandS.Style
import HandS.Walk
import HandS.Zip
import HandS.More
import KE.GoesEnum
import KE.GoesMore
import KE.KDictList
import KE.KDictSum
import HandS.IsInst
import PySem.Challenge.RW_goonagain_k10_whole_ways_joined_and_walk
set_option Elab.async false
set_option maxRecDepth 100000
set_option maxHeartbeats 4000000
/-! common part: what a call keeps, data, repr, the hand of draws -/
namespace Cm
open PySem L2

/-! ### what is kept but at the lists M -/
structure Kp (M : Addr → Prop) (H H' : Hp) : Prop where
  st : ∀ a o, ¬ M a → H a = some o → H' a = some o
  l1 : ∀ a, M a → ∃ xs, H a = some (.lst xs)
  l2 : ∀ a, M a → ∃ xs, H' a = some (.lst xs)
theorem Kp.trans {M : Addr → Prop} {H H1 H2 : Hp} (a : Kp M H H1) (b : Kp M H1 H2) : Kp M H H2 :=
  ⟨fun x o n e => b.st x o n (a.st x o n e), a.l1, b.l2⟩
theorem Kp.of_same {M : Addr → Prop} {H H' : Hp} (h : ∀ a, M a → ∃ xs, H a = some (.lst xs)) (s : Same H H') : Kp M H H' :=
  ⟨fun x o _ e => s x o e, h, fun a m => let ⟨xs, e⟩ := h a m; ⟨xs, s a _ e⟩⟩
theorem Kp.refl {M : Addr → Prop} {H : Hp} (h : ∀ a, M a → ∃ xs, H a = some (.lst xs)) : Kp M H H := .of_same h (Same.refl H)
theorem same_new {H : Hp} {p : Addr} {o : HO} (h : H p = Option.none) : Same H (upd H p o) := fun b u e => by
  rw [upd_ne (ne_of_none e h)]
  exact e
theorem Kp.new {M : Addr → Prop} {H : Hp} (h : ∀ a, M a → ∃ xs, H a = some (.lst xs)) {p : Addr} {o : HO} (hp : H p = Option.none) : Kp M H (upd H p o) :=
  .of_same h (same_new hp)
theorem Kp.put {M : Addr → Prop} {H : Hp} (h : ∀ a, M a → ∃ xs, H a = some (.lst xs)) {p : Addr} {ys : List V} (hp : M p) : Kp M H (upd H p (.lst ys)) :=
  ⟨fun x o n e => by
    rw [upd_ne (show x ≠ p by rintro rfl; exact n hp)]
    exact e, h, fun a m => by
    by_cases q : a = p
    · subst q
      exact ⟨ys, upd_same⟩
    · rw [upd_ne q]
      exact h a m⟩
theorem Kp.wider {M N : Addr → Prop} {H H' : Hp} (k : Kp M H H') (h : ∀ a, M a → N a) (l : ∀ a, N a → ∃ xs, H a = some (.lst xs)) : Kp N H H' :=
  ⟨fun x o n e => k.st x o (fun m => n (h x m)) e, l, fun a m => by
    by_cases q : M a
    · exact k.l2 a q
    · obtain ⟨xs, e⟩ := l a m
      exact ⟨xs, k.st a _ q e⟩⟩
theorem Kp.tup {M : Addr → Prop} {K : PySem.W.Frag} {H H' : Hp} {a : Addr} {xs : List V} (k : Kp M H H') (h : SqT K H a xs) : SqT K H' a xs := by
  have no : ∀ o, H a = some o → (∀ ys, o ≠ .lst ys) → ¬ M a := fun o e n m => by
    obtain ⟨ys, e2⟩ := k.l1 a m
    rw [e] at e2
    exact n ys (Option.some.inj e2)
  rcases h with (h | ⟨o, h⟩) | h
  · exact .inl (.inl (k.st _ _ (no _ h fun _ z => nomatch z) h))
  · exact .inl (.inr ⟨o, k.st _ _ (no _ h fun _ z => nomatch z) h⟩)
  · exact .inr h
theorem Kp.free {M : Addr → Prop} {H H' : Hp} {p : Addr} (k : Kp M H H') (h : H' p = Option.none) : H p = Option.none := by
  cases e : H p with
  | none => rfl
  | some o =>
    by_cases q : M p
    · obtain ⟨xs, e2⟩ := k.l2 p q
      rw [h] at e2
      cases e2
    · have := k.st p o q e
      rw [h] at this
      cases this
theorem Kp.m_of {M : Addr → Prop} {H H' : Hp} {p : Addr} (k : Kp M H H') (h : H p = Option.none) : ¬ M p := fun m => by
  obtain ⟨xs, e⟩ := k.l1 p m
  rw [h] at e
  cases e

/-! ### data -/
mutual
/-- no list, no dict in it -/
def flatD : PyData → Bool
  | .list _ => false
  | .dict _ => false
  | .tuple xs => flatDs xs
  | _ => true
def flatDs : List PyData → Bool
  | [] => true
  | x :: xs => flatD x && flatDs xs
end
mutual
theorem dp_keep {K : PySem.W.Frag} {H H' : Hp} (k : ∀ a xs, SqT K H a xs → SqT K H' a xs) : ∀ (d : PyData) (v : V), flatD d = true → Dp K H v d → Dp K H' v d
  | .none, _, _, h => by cases h; exact .non
  | .bool _, _, _, h => by cases h; exact .bl _
  | .int _, _, _, h => by cases h; exact .int _
  | .str _, _, _, h => by cases h; exact .str _
  | .list _, _, f, _ => by simp [flatD] at f
  | .dict _, _, f, _ => by simp [flatD] at f
  | .tuple ds, _, f, h => by
    cases h with
    | tup hs ha => exact .tup (k _ _ hs) (dps_keep k ds _ (by simpa [flatD] using f) ha)
theorem dps_keep {K : PySem.W.Frag} {H H' : Hp} (k : ∀ a xs, SqT K H a xs → SqT K H' a xs) : ∀ (ds : List PyData) (vs : List V), flatDs ds = true → DpAll K H vs ds → DpAll K H' vs ds
  | [], _, _, h => by cases h; exact .nil
  | d :: ds, _, f, h => by
    cases h with
    | cons h1 h2 =>
      have f' : flatD d = true ∧ flatDs ds = true := by simpa [flatDs] using f
      exact .cons (dp_keep k d _ f'.1 h1) (dps_keep k ds _ f'.2 h2)
end
mutual
/-- all lists in it are kept as well -/
theorem dp_same {K : PySem.W.Frag} {H H' : Hp} (s : Same H H') : ∀ (d : PyData) (v : V), Dp K H v d → Dp K H' v d
  | .none, _, h => by cases h; exact .non
  | .bool _, _, h => by cases h; exact .bl _
  | .int _, _, h => by cases h; exact .int _
  | .str _, _, h => by cases h; exact .str _
  | .dict _, _, h => by cases h
  | .list ds, _, h => by
    cases h with
    | lst hs ha => exact .lst (s.seq hs) (dps_same s ds _ ha)
  | .tuple ds, _, h => by
    cases h with
    | tup hs ha =>
      refine .tup ?_ (dps_same s ds _ ha)
      rcases hs with (h | ⟨o, h⟩) | h
      · exact .inl (.inl (s _ _ h))
      · exact .inl (.inr ⟨o, s _ _ h⟩)
      · exact .inr h
theorem dps_same {K : PySem.W.Frag} {H H' : Hp} (s : Same H H') : ∀ (ds : List PyData) (vs : List V), DpAll K H vs ds → DpAll K H' vs ds
  | [], _, h => by cases h; exact .nil
  | d :: ds, _, h => by
    cases h with
    | cons h1 h2 => exact .cons (dp_same s d _ h1) (dps_same s ds _ h2)
end
theorem DpAll.len {K : PySem.W.Frag} {H : Hp} : ∀ {vs : List V} {ds : List PyData}, DpAll K H vs ds → vs.length = ds.length
  | _, _, .nil => rfl
  | _, _, .cons _ h => congrArg (· + 1) (DpAll.len h)
theorem DpAll.at {K : PySem.W.Frag} {H : Hp} : ∀ {vs : List V} {ds : List PyData} {i : Nat} {d : PyData}, DpAll K H vs ds → ds[i]? = some d → ∃ v, vs[i]? = some v ∧ Dp K H v d
  | _, _, 0, d, .cons h _, e => by
    simp at e
    subst e
    exact ⟨_, rfl, h⟩
  | _, _, i + 1, d, .cons _ h, e => by
    obtain ⟨v, h1, h2⟩ := DpAll.at (i := i) (d := d) h (by simpa using e)
    exact ⟨v, by simpa using h1, h2⟩
theorem DpAll.atV {K : PySem.W.Frag} {H : Hp} : ∀ {vs : List V} {ds : List PyData} {i : Nat} {v : V}, DpAll K H vs ds → vs[i]? = some v → ∃ d, ds[i]? = some d ∧ Dp K H v d
  | _, _, 0, d, .cons h _, e => by
    simp at e
    subst e
    exact ⟨_, rfl, h⟩
  | _, _, i + 1, d, .cons _ h, e => by
    obtain ⟨v, h1, h2⟩ := DpAll.atV (i := i) (v := d) h (by simpa using e)
    exact ⟨v, by simpa using h1, h2⟩
theorem DpAll.snoc {K : PySem.W.Frag} {H : Hp} {v : V} {d : PyData} (h : Dp K H v d) : ∀ {vs : List V} {ds : List PyData}, DpAll K H vs ds → DpAll K H (vs ++ [v]) (ds ++ [d])
  | _, _, .nil => .cons h .nil
  | _, _, .cons a b => .cons a (DpAll.snoc h b)
theorem DpAll.app {K : PySem.W.Frag} {H : Hp} : ∀ {vs ws : List V} {ds es : List PyData}, DpAll K H vs ds → DpAll K H ws es → DpAll K H (vs ++ ws) (ds ++ es)
  | _, _, _, _, .nil, h => h
  | _, _, _, _, .cons a b, h => .cons a (DpAll.app b h)
theorem DpAll.take {K : PySem.W.Frag} {H : Hp} (n : Nat) : ∀ {vs : List V} {ds : List PyData}, DpAll K H vs ds → DpAll K H (vs.take n) (ds.take n) := by
  induction n with
  | zero => intro vs ds _; exact .nil
  | succ n ih =>
    intro vs ds h
    cases h with
    | nil => exact .nil
    | cons a b => exact .cons a (ih b)
theorem DpAll.drop {K : PySem.W.Frag} {H : Hp} (n : Nat) : ∀ {vs : List V} {ds : List PyData}, DpAll K H vs ds → DpAll K H (vs.drop n) (ds.drop n) := by
  induction n with
  | zero => intro vs ds h; exact h
  | succ n ih =>
    intro vs ds h
    cases h with
    | nil => exact .nil
    | cons a b => exact ih b
theorem DpAll.rev {K : PySem.W.Frag} {H : Hp} : ∀ {vs : List V} {ds : List PyData}, DpAll K H vs ds → DpAll K H vs.reverse ds.reverse
  | _, _, .nil => .nil
  | _, _, .cons a b => by
    rw [List.reverse_cons, List.reverse_cons]
    exact DpAll.snoc a (DpAll.rev b)
theorem dpAll_ints {K : PySem.W.Frag} {H : Hp} : ∀ ns : List Int, DpAll K H (ns.map V.int) (ns.map PyData.int)
  | [] => .nil
  | n :: ns => .cons (.int n) (dpAll_ints ns)

/-! ### repr of data -/
/-- what repr sees at a value: data of lists and tuples, or a dict of int keys whose values are data without lists -/
def Rp (K : PySem.W.Frag) (H : Hp) (x : V) (d : PyData) : Prop :=
  Dp K H x d ∨ ∃ (a : Addr) (kvs : List (Key × V)) (es : List (Int × PyData)), x = .ref a ∧ H a = some (.dK kvs) ∧ kvs.map (·.1) = es.map (fun e => Sum.inl e.1) ∧
    DpAll K H (kvs.map (·.2)) (es.map (·.2)) ∧ flatDs (es.map (·.2)) = true ∧ d = .dict (es.map fun e => (.int e.1, e.2))
mutual
/-- short leaves -/
def okD : PyData → Bool
  | .int i => decide (i.natAbs < 10 ^ 12)
  | .str x => PyData.leavesShort 13 (.str x)
  | .list xs => okDs xs
  | .tuple xs => okDs xs
  | .dict kvs => okDk kvs
  | _ => true
def okDs : List PyData → Bool
  | [] => true
  | x :: xs => okD x && okDs xs
def okDk : List (PyData × PyData) → Bool
  | [] => true
  | (k, v) :: r => okD k && okD v && okDk r
end
mutual
theorem okD_show : ∀ d : PyData, okD d = true → d.showable = true ∧ d.leavesShort 13 = true
  | .none, _ => by constructor <;> first | rfl | decide +kernel | simp [PyData.showable, PyData.leavesShort]
  | .bool b, _ => by cases b <;> constructor <;> first | rfl | decide +kernel
  | .int i, h => by
    have h' : i.natAbs < 10 ^ 12 := by simpa [okD] using h
    refine ⟨?_, ?_⟩
    · have : i.natAbs.log2 < 1920 := by
        by_cases z : i.natAbs = 0
        · rw [z]; decide
        · refine Nat.lt_of_lt_of_le ((Nat.log2_lt z).mpr (show i.natAbs < 2 ^ 64 from Nat.lt_of_lt_of_le h' (by decide))) (by decide)
      simpa [PyData.showable] using this
    · have := PyData.shown_int_le h'
      simpa [PyData.leavesShort] using this
  | .str x, h => by
    exact ⟨by simp [PyData.showable], by simpa only [okD] using h⟩
  | .list xs, h => by
    have := okDs_show xs (by simpa [okD] using h)
    exact ⟨by simpa [PyData.showable] using this.1, by simpa [PyData.leavesShort] using this.2⟩
  | .tuple xs, h => by
    have := okDs_show xs (by simpa [okD] using h)
    exact ⟨by simpa [PyData.showable] using this.1, by simpa [PyData.leavesShort] using this.2⟩
  | .dict kvs, h => by
    have := okDk_show kvs (by simpa [okD] using h)
    exact ⟨by simpa [PyData.showable] using this.1, by simpa [PyData.leavesShort] using this.2⟩
theorem okDs_show : ∀ xs : List PyData, okDs xs = true → PyData.showableAll xs = true ∧ PyData.leavesShortAll 13 xs = true
  | [], _ => ⟨by simp [PyData.showableAll], by simp [PyData.leavesShortAll]⟩
  | x :: xs, h => by
    have h' : okD x = true ∧ okDs xs = true := by simpa [okDs] using h
    have a := okD_show x h'.1
    have b := okDs_show xs h'.2
    exact ⟨by simp [PyData.showableAll, a.1, b.1], by simp [PyData.leavesShortAll, a.2, b.2]⟩
theorem okDk_show : ∀ xs : List (PyData × PyData), okDk xs = true → PyData.showableKv xs = true ∧ PyData.leavesShortKv 13 xs = true
  | [], _ => ⟨by simp [PyData.showableKv], by simp [PyData.leavesShortKv]⟩
  | (k, v) :: xs, h => by
    have h' : (okD k = true ∧ okD v = true) ∧ okDk xs = true := by simpa [okDk] using h
    have a := okD_show k h'.1.1
    have b := okD_show v h'.1.2
    have c := okDk_show xs h'.2
    exact ⟨by simp [PyData.showableKv, a.1, b.1, c.1], by simp [PyData.leavesShortKv, a.2, b.2, c.2]⟩
end
mutual
theorem no_as {h : Heap} : ∀ (d : PyData) (u : Value) (as : List Addr), flatD d = true → Reads h u d as → as = []
  | .none, _, _, _, r => by cases r; rfl
  | .bool _, _, _, _, r => by cases r; rfl
  | .int _, _, _, _, r => by cases r; rfl
  | .str _, _, _, _, r => by cases r; rfl
  | .list _, _, _, f, _ => by simp [flatD] at f
  | .dict _, _, _, f, _ => by simp [flatD] at f
  | .tuple ds, _, _, f, r => by
    cases r with
    | tuple _ _ _ ha => exact no_ass ds _ _ (by simpa [flatD] using f) ha
theorem no_ass {h : Heap} : ∀ (ds : List PyData) (us : List Value) (as : List Addr), flatDs ds = true → ReadsAll h us ds as → as = []
  | [], _, _, _, r => by cases r; rfl
  | d :: ds, _, _, f, r => by
    have f' : flatD d = true ∧ flatDs ds = true := by simpa [flatDs] using f
    cases r with
    | cons r1 r2 => rw [no_as d _ _ f'.1 r1, no_ass ds _ _ f'.2 r2]; rfl
end
mutual
theorem dp_nodict {K : PySem.W.Frag} {H : Hp} : ∀ (d : PyData) (v : V), Dp K H v d → d.hasDict = false
  | .none, _, _ => by simp [PyData.hasDict]
  | .bool _, _, _ => by simp [PyData.hasDict]
  | .int _, _, _ => by simp [PyData.hasDict]
  | .str _, _, _ => by simp [PyData.hasDict]
  | .dict _, _, h => by cases h
  | .list ds, _, h => by
    cases h with
    | lst _ ha => simpa [PyData.hasDict] using dps_nodict ds _ ha
  | .tuple ds, _, h => by
    cases h with
    | tup _ ha => simpa [PyData.hasDict] using dps_nodict ds _ ha
theorem dps_nodict {K : PySem.W.Frag} {H : Hp} : ∀ (ds : List PyData) (vs : List V), DpAll K H vs ds → PyData.hasDictAll ds = false
  | [], _, _ => by simp [PyData.hasDictAll]
  | d :: ds, _, h => by
    cases h with
    | cons h1 h2 => simp [PyData.hasDictAll, dp_nodict d _ h1, dps_nodict ds _ h2]
end
theorem flatDs_ints : ∀ ks : List Int, flatDs (ks.map PyData.int) = true
  | [] => rfl
  | k :: ks => by simp [flatDs, flatD, flatDs_ints ks]
section
variable {X : Cx}
theorem dict_keys {prog : Program} {w : World} {h : Heap} : ∀ (es : List (Int × PyData)) (kvs : List (Key × V)) (l : List DictEntry) (vs : List (Key × Value)), kvs.map (·.1) = es.map (fun e => Sum.inl e.1) → KV kvs vs → Pairs (mixKind prog w) l vs →
    ReadsAll h (l.map (·.key)) (es.map fun e => PyData.int e.1) [] ∧ Vals (kvs.map (·.2)) (l.map (·.val))
  | [], kvs, l, vs, hk, r, p => by
    cases kvs with
    | cons a b => simp at hk
    | nil =>
      cases r
      cases p
      exact ⟨.nil, .nil⟩
  | e :: es, kvs, l, vs, hk, r, p => by
    cases kvs with
    | nil => simp at hk
    | cons a b =>
      simp only [List.map_cons, List.cons.injEq] at hk
      cases r with
      | @cons _ v _ vs' r1 r2 =>
        cases p with
        | @cons en _ l' _ p1 p2 p3 =>
          obtain ⟨q1, q2⟩ := dict_keys es b l' vs' hk.2 r2 p3
          have p1' : keyIs v.1 en.key = true := p1
          rw [← r1.1, hk.1] at p1'
          obtain ⟨t, et⟩ := Value.isInt_shape (k := e.1) (v := en.key) p1'
          refine ⟨?_, .cons ?_ q2⟩
          · rw [List.map_cons, List.map_cons, et]
            exact ReadsAll.cons (as := []) (bs := []) (Reads.int _ _) q1
          · show RelV a.2 en.val
            rw [p2]
            exact r1.2
def rRepr (K : PySem.W.Frag) : List V → Hp → VK → Prop := fun xs H Q => ∃ x d, xs = [x] ∧ Rp K H x d ∧ okD d = true ∧ d.depth ≤ 60 ∧ d.weight ≤ 2 ^ 20 ∧ Q (.str d.shown) H
theorem call_reprD (hg : X.A.guards = some []) (hu : X.A.units + 64 < cLine) : CallR X (.builtin "repr") (rRepr X.K) := by
  intro pins s σ H xs us Q I r h
  obtain ⟨x, d, rfl, hd, ok, hdep, hw, q⟩ := h
  obtain ⟨u, rfl, rx⟩ := vals1 r
  obtain ⟨hsh, hls⟩ := okD_show d ok
  have hsz : d.shown.length ≤ sizeLine := PyData.shown_fits (by decide) (by decide) hls hw
  have fin : ∀ (a : Addr) (as : List Addr), u = .ref a → Reads s.heap u d as → (d.hasDict = true → sysModules ∉ as) → wpAny (model X.prog X.w) X.A (call (.builtin "repr") [u]) (EP X pins σ Q) X.xe s := fun a as e rd no => by
    subst e
    exact repr_of_reads' rd hsh no hg (by omega) (fun _ _ e => e) (fun h' u tk k => ⟨.str _, H, I.kept k, ⟨_, rfl⟩, q⟩) hsz
  rcases hd with hd | ⟨a, kvs, es, rfl, ha, hk, hv, hf, rfl⟩
  · obtain ⟨as, rd⟩ := Dp.reads I d x u hd rx
    cases hd with
    | non => cases rx; exact P.repr_of_none ⟨.str _, H, I.tok _, ⟨_, rfl⟩, q⟩
    | bl b => cases rx; exact P.repr_of_bool ⟨.str _, H, I.tok _, ⟨_, rfl⟩, by cases b <;> exact q⟩
    | int i =>
      obtain ⟨t, rfl⟩ := rx
      exact P.repr_of_int (by simpa [PyData.showable] using hsh) ⟨.str _, H, I.tok _, ⟨_, rfl⟩, by simpa [PyData.shown] using q⟩
    | str z =>
      obtain ⟨t, rfl⟩ := rx
      exact P.repr_of_str ⟨.str _, H, I.tok _, ⟨_, rfl⟩, by simpa [PyData.shown] using q⟩ (by simpa [PyData.shown] using hsz)
    | lst hs ha =>
      have nd := dp_nodict _ _ (Dp.lst hs ha)
      cases rx
      exact fin _ as rfl rd fun z => by rw [nd] at z; cases z
    | tup hs ha =>
      have nd := dp_nodict _ _ (Dp.tup hs ha)
      cases rx
      exact fin _ as rfl rd fun z => by rw [nd] at z; cases z
  · cases rx
    obtain ⟨_, hsys, vs, rv, ob, dl, ep, e1, e2, e3, _, e5, _⟩ := (show kvs.length ≤ sizeLine ∧ (a == sysModules) = false ∧ ∃ vs, KV kvs vs ∧ s.heap.DictOf (mixKind X.prog X.w) a vs from dk_of I.hok ha)
    obtain ⟨q1, q2⟩ := dict_keys es kvs dl.toList vs hk rv e5
    obtain ⟨bs, q3⟩ := Dp.readsAll I _ _ _ hv q2
    obtain rfl := no_ass _ _ _ hf q3
    have rd : Reads s.heap (.ref a) (.dict (es.map fun e => (PyData.int e.1, e.2))) (a :: [] ++ []) :=
      .dict e1 e2.1 e3 (by rw [List.map_map]; exact q1) (by rw [List.map_map]; exact q3)
    exact fin a _ rfl rd fun _ m => by
      have : sysModules = a := by simpa using m
      rw [← this] at hsys
      simp at hsys
end
end Cm

/-! a law's call whose body may ask repr: nothing is under repr there -/
namespace Cm
open PySem L2 PySem.Spec PyProof.Rows
section
variable {P : Program} {w : World} {K : PySem.W.Frag} {mg : Str → Option Value} {base : Heap}
/-- the promise of the law's def, where no repr is under way -/
def LawAt (P : Program) (w : World) (K : PySem.W.Frag) (mg : Str → Option Value) (base : Heap) (k : Nat) (f : Addr) (fd : FuncData) (ps : List Str) (sp : Sp) : Prop :=
  ∀ (A : Around) (outer : List Env) (s : Shared) (H : Hp) (args : Args) (us : List Value) (vs : List V) (Q : VK) (E : XK),
    A.guards = some [] → Room k A → Env0 P w K mg base A outer s H → BindsTo s fd args (ps.zip us) → Vals vs us → sp vs H Q E →
      codeAny (model P w) A (.call (.ref f) args) (CR CX0 outer P w H s Q E) s
theorem lawAt_of {x : Str} {st : Stmt} {f : Addr} {fd : FuncData} {N ps : List Str} {k : Nat} {sp : Sp} (F : Fun K x x st f fd) (S : FnScope N ps (defScope st))
    (len : ∀ vs H Q E, sp vs H Q E → vs.length = ps.length)
    (hb : ∀ (cdv : Value) (A : Around) (outer : List Env) (s : Shared) (H : Hp) (vs : List V) (Q : VK) (E : XK), A.guards = some [] →
      Room k (A.deeper (envOfC x (defScope st) s.heap.objs.size f cdv)) → sp vs H Q E →
      ∃ t, PSs (cxOf CX0 P w K mg base N x (defScope st) f cdv A outer s H E).nox (defBody st) t ∧ t { nx := fun _ H' => Q .non H', rt := Q } (start N vs) H) :
    LawAt P w K mg base (k + 1) f fd ps sp := by
  intro A outer s H args us vs Q E hg hr e0 hbind rv hs
  obtain ⟨oc, od, kV, doc, pm, an, cdv, ct, osl, rfl, lk, hcd⟩ := F.ex
  have keeps : ∀ b o, base.get? b = some o → s.heap.get? b = some o := fun b o e => (e0.bs b o e).1
  have KX : K.In s.heap := e0.mod.kin.keeps keeps
  refine codeAny_call_function hr.depth (KX _ _ lk) rfl S.co S.gen rfl (PySem.W.codeRec_of KX hcd) (hbind _ _ _ _ ?_)
  refine wpAny_newFunctionEnv_cells S.kind (fun z hz => ?_) fun env he s1 xc => ?_
  · rcases S.par z.1 (List.of_mem_zip (show (z.1, z.2) ∈ ps.zip us from hz)).1 with q | q
    · exact Or.inl q
    · exact Or.inr ⟨q, PySem.W.cellsFrom_some _ _ _ (Or.inl q)⟩
  · subst he
    refine ⟨(e0.mod.nolimit.keeps keeps).keeps xc.toInCall.keep, codeAny_func ?_⟩
    obtain ⟨t, ht, hq⟩ := hb cdv A outer s H vs Q E hg (hr.deeper _) hs
    have I := inv_start (E := E) (CX := CX0) S hr.hd e0 (len _ _ _ _ hs) rv xc
    refine wpAny_mono (ht.nox.run [] s1 (start N vs) H _ I hq) (fun fl s' hz => ?_) fun e s' hz => hz
    cases fl with
    | ret u =>
      obtain ⟨v, _, H', J, r, q⟩ := hz
      exact ⟨v, H', J.os, J.bare, J.base, J.hok, r, q⟩
    | next =>
      obtain ⟨_, H', J, q⟩ := hz
      exact ⟨V.non, H', J.os, J.bare, J.base, J.hok, rfl, q⟩
    | brk =>
      obtain ⟨_, _, _, q⟩ := hz
      exact q.elim
    | cont =>
      obtain ⟨_, _, _, q⟩ := hz
      exact q.elim
end
/-- the script tracked at a: known to the object, or one of the module's own -/
def scriptH (a : Addr) (o : Obj) (ns : List Int) : Hp := fun b => if b = a then some (.frz o (.lst (ns.map V.int))) else Option.none
theorem law_goes {P : Program} {w : World} {K : PySem.W.Frag} {mg mb : Str → Option Value} {k : Nat} {fa a : Addr} {fd : FuncData} {x : Str} {sp : Sp} {s₁ : Shared} {vs : List Value} {ns : List Int}
    (KX : K.In s₁.heap) (hns : s₁.heap.Ns mainGlobals mg) (hb : s₁.heap.Ns builtinsNs mb)
    (hbb : ∀ x : Str, x ≠ "__name__" → mb x = bootBuiltins x) (hlim : s₁.heap.NoLimit) (hg : s₁.gens = #[])
    (ha : s₁.heap.get? a = some { cls := .type "list", data := .seq vs.toArray }) (hi : IntsAre vs ns) (hl : ns.length ≤ sizeLine) (hr : Room k callerA)
    (F : ∀ b : Heap, K.In b → b.Ns mainGlobals mg → LawAt P w K mg b k fa fd [x] sp)
    (hbind : ∀ (s : Shared) (u : Value), BindsTo s fd ⟨[u], []⟩ [(x, u)])
    (hsp : ∀ H : Hp, Only H → SqL K H a (ns.map V.int) → sp [.ref a] H (fun v _ => v = .bl true) fun _ _ _ => False) :
    codeAny (model P w) callerA (.call (.ref fa) ⟨[.ref a], []⟩)
      (fun r s' => r = .ok (.ret (.bool true)) ∧ OldK s₁.heap s'.heap ∧ s'.os = s₁.os ∧ AllBare s'.gens) s₁ := by
  have rv := vals_ints hi
  have main : ∀ H : Hp, Only H → SqL K H a (ns.map V.int) → HOk P w H s₁.heap → (∀ b, H b ≠ Option.none → b = a ∧ K.lookup a = Option.none) →
      codeAny (model P w) callerA (.call (.ref fa) ⟨[.ref a], []⟩)
        (fun r s' => r = .ok (.ret (.bool true)) ∧ OldK s₁.heap s'.heap ∧ s'.os = s₁.os ∧ AllBare s'.gens) s₁ := by
    intro H hO hS hok hA
    have free_ns : ∀ {b : Addr} {o : Obj} {es : Array DictEntry} {ep : Nat}, s₁.heap.get? b = some o → o.data = .dict es ep → H b = Option.none := fun {b o es ep} e d => by
      by_cases q : H b = Option.none
      · exact q
      · obtain ⟨rfl, _⟩ := hA b q
        rw [ha] at e
        cases e
        cases d
    have ns_of : ∀ {b : Addr} {m : Str → Option Value}, s₁.heap.Ns b m → (hidT s₁.heap H).Ns b m := fun h => by
      obtain ⟨o, es, ep, e, d, r⟩ := h
      exact ⟨o, es, ep, hidT_get e (free_ns e d), d, r⟩
    have kin : K.In (hidT s₁.heap H) := fun b o e => hidT_get (KX b o e) (by
      by_cases q : H b = Option.none
      · exact q
      · obtain ⟨rfl, q2⟩ := hA b q
        rw [q2] at e
        cases e)
    obtain ⟨mc, l1, l2⟩ := hlim
    have e0 : Env0 P w K mg (hidT s₁.heap H) callerA [] s₁ H :=
      { frames := rfl, mod := ⟨kin, ns_of hns, ⟨mb, ns_of hb, hbb⟩, ⟨mc, ns_of l1, l2⟩⟩, bs := fun b o e => of_hidT e, bsz := Nat.le_of_eq (hidT_size _ _),
        funs := trivial, frf := fun b z => absurd (show b ∈ ([] : List Addr) from z) (by simp), hok := hok, bare := .of_eq hg }
    have run := F _ kin (ns_of hns) callerA [] s₁ H ⟨[.ref a], []⟩ [.ref a] [.ref a] _ _ rfl hr e0 (hbind s₁ (.ref a)) (.cons rfl .nil) (hsp H hO hS)
    refine codeAny_mono run fun r s' h => ?_
    rcases r with e | fl
    · exact False.elim h
    · cases fl with
      | ret u =>
        obtain ⟨v, H', os, bare, un, hok', r', q⟩ := h
        have q' : v = .bl true := q
        subst q'
        have eu : u = Value.bool true := r'
        subst eu
        refine ⟨rfl, OldK.of_keep fun b o e => ?_, os, bare⟩
        by_cases q : H b = Option.none
        · exact un.keep b o e q (fun z => absurd (show b ∈ ([] : List Addr) from z) (by simp)) (by simp)
        · rcases hO b with z | ⟨ob, xs, z⟩
          · exact absurd z q
          · have e1 := (hok b _ z).1
            have e2 := (hok' b _ (un.frzs b ob _ z)).1
            rw [e] at e1
            cases e1
            exact e2
      | next => exact False.elim h
      | brk => exact False.elim h
      | cont => exact False.elim h
  by_cases hk : K.lookup a = Option.none
  · refine main (scriptH a { cls := .type "list", data := .seq vs.toArray } ns) (fun b => ?_) (.inl (.inr ⟨_, if_pos rfl⟩)) (fun b u z => ?_) fun b z => ?_
    · by_cases q : b = a
      · exact .inr ⟨_, _, if_pos q⟩
      · exact .inl (if_neg q)
    · unfold scriptH at z
      by_cases q : b = a
      · rw [if_pos q] at z
        cases z
        subst q
        exact ⟨ha, by rw [List.length_map]; exact hl, vs, _, rv, ha⟩
      · rw [if_neg q] at z
        cases z
    · by_cases q : b = a
      · exact ⟨q, hk⟩
      · exact absurd (if_neg q) z
  · obtain ⟨o, ho⟩ : ∃ o, K.lookup a = some o := by
      cases e : K.lookup a with
      | none => exact absurd e hk
      | some o => exact ⟨o, rfl⟩
    have e := KX a o ho
    rw [ha] at e
    cases e
    refine main (fun _ => Option.none) (fun _ => .inl rfl) ?_ (fun b u z => by cases z) fun b z => absurd rfl z
    exact .inr ⟨_, vs.toArray, _, ho, rfl, rfl, rfl, by rw [List.size_toArray, hi.length]; exact hl, by simpa using rv⟩
theorem walk_law {l : PySem.W.OpenLaw} {n k : Nat} {q : Program} {loose : List Str} {XP : (Str → Option Value) → Heap → Prop} {YP : World → Heap → Prop} {d : DefRec} {K : Params → PySem.W.Frag} {sp : PySem.W.Frag → Sp} {x : Str}
    (hn : l.most = some n) (hn2 : n ≤ sizeLine) (hdf : d.params.defaults = []) (hr : Room k callerA)
    (hY : ∀ (w : World) (h : Heap), YP w h → (K w.params).In h)
    (F : ∀ (w : World) (mg : Str → Option Value) (fa : Addr) (h : Heap), (K w.params).In h → h.Ns mainGlobals mg → mg d.name = some (.ref fa) →
      ∃ fd : FuncData, (∀ (s : Shared) (u : Value), BindsTo s fd ⟨[u], []⟩ [(x, u)]) ∧
        ∀ b : Heap, (K w.params).In b → b.Ns mainGlobals mg → LawAt l.prog w (K w.params) mg b k fa fd [x] (sp (K w.params)))
    (hsp : ∀ (K : PySem.W.Frag) (H : Hp) (a : Addr) (ns : List Int), ns.length ≤ n → Only H → SqL K H a (ns.map V.int) → sp K [.ref a] H (fun v _ => v = .bl true) fun _ _ _ => False) :
    PySem.W.WalkO q loose XP YP l.row.toRowW d [] (fun f vs => PySem.call f vs) := by
  refine Att.attach_call hn hdf fun w s₀ s₁ mg mb fa o pm cd doc a vs ns G Y ho hd hcd hmg hobj hints hlen hg => ?_
  obtain ⟨fd, hb, hF⟩ := F w mg fa _ (hY w _ Y) G.T.g hmg
  exact law_goes (hY w _ Y) G.T.g G.T.b G.T.builtins G.T.nolimit hg hobj hints (Nat.le_trans hlen hn2) hr hF hb fun H hO hS => hsp _ H a ns hlen hO hS
end Cm

/-! defs that are called by name; the hand of draws -/
namespace Cm
open PySem L2 PySem.Spec PyProof.Rows
structure Cl (P : Program) (w : World) (K : PySem.W.Frag) (mg : Str → Option Value) (base : Heap) (k : Nat) (x : Str) (sp : Sp) : Prop where
  ex : ∃ (f : Addr) (fd : FuncData) (ps : List Str), FnOk P w K mg base CX0 k f fd ps sp ∧ mg x = some (.ref f) ∧ PySem.W.keepIn K (.ref f) = true ∧ Binds K fd ps []
/-- where a def of the text stands -/
structure At (K : PySem.W.Frag) (mg : Str → Option Value) (x : Str) (st : Stmt) (ps : List Str) : Prop where
  ex : ∃ (f : Addr) (fd : FuncData), Fun K x x st f fd ∧ mg x = some (.ref f) ∧ Binds K fd ps []
section
variable {P : Program} {w : World} {K : PySem.W.Frag} {mg : Str → Option Value} {base : Heap}
theorem cl_of {x : Str} {st : Stmt} {N ps : List Str} {k : Nat} {sp : Sp} (T : At K mg x st ps) (S : FnScope N ps (defScope st))
    (len : ∀ vs H Q E, sp vs H Q E → vs.length = ps.length)
    (hb : ∀ (f : Addr) (cdv : Value) (A : Around) (outer : List Env) (s : Shared) (H : Hp) (vs : List V) (Q : VK) (E : XK),
      Room k (A.deeper (envOfC x (defScope st) s.heap.objs.size f cdv)) → sp vs H Q E →
      ∃ t, PSs (cxOf CX0 P w K mg base N x (defScope st) f cdv A outer s H E).nox (defBody st) t ∧ t { nx := fun _ H' => Q .non H', rt := Q } (start N vs) H) :
    Cl P w K mg base (k + 1) x sp := by
  obtain ⟨f, fd, F, hm, b⟩ := T.ex
  exact ⟨f, fd, ps, F.ok S len (hb f), hm, F.kp, b⟩
end
section
variable {X : Cx} {j k : Nat} {x : Str} {sp : Sp} {e : Expr} {es : List Expr} {t : TA} {p pos : Pos}
theorem pe_c (c : Cl X.prog X.w X.K X.mg X.base k x sp) (hr : Room j X.A) (hk : k ≤ j) (hg : Gl X x) (ha : PA X (e :: es) t)
    (hdb : (x == ("__debug__" : Str)) = false := by decide) (he : starEach (e :: es) X.env = (false, eval e X.env) :: starEach es X.env := by rfl)
    (hpl : (backTo pos (starEach es X.env)).any (·.1) = false := by rfl) : PE X (.Call (.Name x p) (e :: es) [] pos) (tCall sp [] E0 t) := by
  obtain ⟨f, fd, ps, F, hm, kp, b⟩ := c.ex
  exact pe_call F (hr.mono hk) hg hm kp b .nil pass0 ha hdb he hpl
end

theorem map_at {α β : Type} {f : α → β} {xs : List α} {i : Nat} {y : β} (h : (xs.map f)[i]? = some y) : ∃ x, xs[i]? = some x ∧ y = f x := by
  rw [List.getElem?_map] at h
  obtain ⟨x, a, b⟩ := Option.map_eq_some_iff.mp h
  exact ⟨x, a, b.symm⟩

/-! ### a word between a statement and what follows it -/
def tMid (t u : TS) : TS := fun D σ H => ∃ M : L2.St → Hp → Prop, t { D with nx := M } σ H ∧ ∀ σ' H', M σ' H' → u D σ' H'
theorem pss_mid {X : Cx} {st : Stmt} {rest : List Stmt} {t u : TS} (h1 : PS X st t) (h2 : PSs X rest u) : PSs X (st :: rest) (tMid t u) :=
  ⟨fun pins s σ H D I h => by
    obtain ⟨M, hm, hu⟩ := h
    refine wpAny_execs_cons (thn (h1.run pins s σ H { D with nx := M } I hm) fun fl s1 q => ?_)
    cases fl with
    | next =>
      obtain ⟨σ', H', I', q⟩ := q
      exact h2.run pins s1 σ' H' D I' (hu σ' H' q)
    | ret v => exact q
    | brk => exact q
    | cont => exact q⟩

/-! ### the hand of draws -/
/-- a hand stands at h: the cells, how many were taken, a great cell that is drawn from, a sum -/
def Hand (H : Hp) (h c : Addr) : Prop := ∃ (cells : List Int) (i b t : Int), H h = some (.lst [.ref c, .int i, .int b, .int t]) ∧ H c = some (.lst (cells.map V.int)) ∧ c ≠ h ∧ 0 ≤ i ∧ cells.length ≤ 63
theorem Hand.lst {H : Hp} {h c : Addr} (x : Hand H h c) : ∃ xs, H h = some (.lst xs) := let ⟨_, _, _, _, e, _⟩ := x; ⟨_, e⟩
theorem Hand.same {H H' : Hp} {h c : Addr} (x : Hand H h c) (s : Same H H') : Hand H' h c := by
  obtain ⟨cells, i, b, t, e1, e2, n, z⟩ := x
  exact ⟨cells, i, b, t, s _ _ e1, s _ _ e2, n, z⟩
/-- the hand alone is changed -/
abbrev Kh (h : Addr) : Hp → Hp → Prop := Kp (fun a => a = h)
theorem Hand.kh {H H' : Hp} {h c : Addr} (x : Hand H h c) (s : Same H H') : Kh h H H' := .of_same (fun a m => by subst m; exact x.lst) s
theorem Hand.kr {H : Hp} {h c : Addr} (x : Hand H h c) : Kh h H H := x.kh (Same.refl H)

def spMix : Sp := fun vs H Q _ => ∃ a b : Int, vs = [.int a, .int b] ∧ ∀ n : Int, Q (.int n) H
def spHand (K : PySem.W.Frag) : Sp := fun vs H Q _ => ∃ (a : Addr) (ns : List Int), vs = [.ref a] ∧ SqL K H a (ns.map V.int) ∧ ns.length ≤ 63 ∧ ∀ h c H', Same H H' → H h = Option.none → H c = Option.none → Hand H' h c → Q (.ref h) H'
def spDraw : Sp := fun vs H Q _ => ∃ (h c : Addr) (m : Int), vs = [.ref h, .int m] ∧ Hand H h c ∧ 0 < m ∧ m < 2 ^ 100 ∧ ∀ (n : Int) (H' : Hp), 0 ≤ n → n < m → Kh h H H' → Hand H' h c → Q (.int n) H'
/-- pick out of a list or tuple -/
def spPick (K : PySem.W.Frag) : Sp := fun vs H Q _ => ∃ (h c a : Addr) (xs : List V), vs = [.ref h, .ref a] ∧ Hand H h c ∧ (SqL K H a xs ∧ a ≠ h ∨ SqT K H a xs) ∧ xs ≠ [] ∧ xs.length ≤ 1000 ∧
  ∀ (v : V) (H' : Hp), v ∈ xs → Kh h H H' → Hand H' h c → Q v H'
end Cm

/-! further rules: a tuple read backwards, enumerate over a tuple, sorted(d.keys()) -/
namespace Cm
open PySem L2 PySem.Spec PyProof.Rows
section
variable {prog : Program} {w : World} {A : Around} {E : Value → Shared → Prop} {s : Shared}
theorem adjust_back (n : Nat) : Builtin.Slice.sliceAdjust none none (-1) (n : Int) = ((n : Int) - 1, -1) := by
  unfold Builtin.Slice.sliceAdjust
  simp
theorem places_back (n : Nat) : Builtin.Slice.slicePlaces ((n : Int) - 1) (-1) (-1) = n := by
  unfold Builtin.Slice.slicePlaces
  simp
  try omega
theorem applied_back {sl : Addr} {vs : Value} {n : Nat} {Q : Int × Int × Nat → Shared → Prop} (hs : s.heap.IsSliceOf sl .none .none vs) (ps : IsPart vs (some (-1)))
    (h : Q ((n : Int) - 1, -1, n) s) : wpAny (model prog w) A (Builtin.Slice.sliceApplied (.ref sl) (pure (n : Int))) Q E s := by
  obtain ⟨os, hos, hcs, hds⟩ := id hs
  unfold Builtin.Slice.sliceApplied Builtin.Slice.sliceFields
  refine wpAny_bind (wpAny_bind (wpAny_field hos hds (x := .none) rfl (wpAny_bind (wpAny_field hos hds (x := .none) rfl (wpAny_bind (wpAny_field hos hds (x := vs) rfl (wpAny_pure ?_)))))))
  refine wpAny_bind (HT.slicePart_ ps ?_)
  show wpAny _ _ (if ((-1 : Int) == 0) = true then _ else _) _ _ s
  rw [if_neg (by decide)]
  refine wpAny_bind (slicePart_none (wpAny_bind (slicePart_none (wpAny_bind (wpAny_pure ?_)))))
  show wpAny _ _ (match Builtin.Slice.sliceAdjust none none (-1) (n : Int) with | (lo, hi) => pure (lo, (-1 : Int), Builtin.Slice.slicePlaces lo hi (-1))) _ _ s
  rw [adjust_back]
  show wpAny _ _ (pure ((n : Int) - 1, (-1 : Int), Builtin.Slice.slicePlaces ((n : Int) - 1) (-1) (-1))) _ _ s
  rw [places_back]
  exact wpAny_pure h
theorem filterMap_eqs {α β : Type} {f g : α → Option β} : ∀ l : List α, (∀ x ∈ l, f x = g x) → l.filterMap f = l.filterMap g
  | [], _ => rfl
  | x :: l, h => by
    rw [List.filterMap_cons, List.filterMap_cons, h x List.mem_cons_self, filterMap_eqs l fun y hy => h y (List.mem_cons_of_mem _ hy)]
theorem pick_all (m : List Value) : (List.range m.length).filterMap (fun k => m[k]?) = m := by
  induction m with
  | nil => rfl
  | cons a m ih =>
    rw [List.length_cons, List.range_succ_eq_map, List.filterMap_cons]
    simp only [List.getElem?_cons_zero, List.filterMap_map]
    refine congrArg _ (Eq.trans (filterMap_eqs _ fun k _ => ?_) ih)
    simp
theorem pick_back (xs : Array Value) : ((List.range xs.size).filterMap fun (k : Nat) => xs[((xs.size : Int) - 1 + (k : Int) * -1).toNat]?).toArray = xs.toList.reverse.toArray := by
  have h1 : (List.range xs.size).filterMap (fun (k : Nat) => xs[((xs.size : Int) - 1 + (k : Int) * -1).toNat]?) = (List.range xs.size).filterMap (fun k => xs.toList.reverse[k]?) := by
    refine filterMap_eqs _ fun k hk => ?_
    have hk' : k < xs.size := List.mem_range.mp hk
    have e2 : ((xs.size : Int) - 1 + (k : Int) * -1).toNat = xs.size - 1 - k := by omega
    rw [e2, List.getElem?_reverse (by simpa using hk'), Array.getElem?_toList]
    simp
  have h3 := pick_all xs.toList.reverse
  rw [List.length_reverse, Array.length_toList] at h3
  rw [h1, h3]
theorem getItem_tuple_back {t sl : Addr} {items : Array Value} {vs : Value} {Q : Value → Shared → Prop} (ht : IsTup s.heap t items) (hs : s.heap.IsSliceOf sl .none .none vs) (ps : IsPart vs (some (-1)))
    (h : Q (.ref s.heap.objs.size) { s with heap := s.heap.push { cls := .type "tuple", data := .seq items.toList.reverse.toArray } })
    (hsz : items.size ≤ sizeLine) : wpAny (model prog w) A (getItem (.ref t) (.ref sl)) Q E s := by
  have hok : sizeOk (.seq items.toList.reverse.toArray) := by
    show items.toList.reverse.toArray.size ≤ sizeLine
    rw [List.size_toArray, List.length_reverse, Array.length_toList]
    exact hsz
  obtain ⟨os, hos, hcs, hds⟩ := id hs
  have hTs : s.TypeIs (.ref sl) "slice" := ⟨os, hos, hcs⟩
  unfold getItem
  try with_reducible refine wpAny_holding ?_
  first | refine wpAny_bind (wpAny_pure ?_) | skip
  refine wpAny_bind (wpAny_sequenceKey ht.typeIs (by decide) ?_)
  refine wpAny_bind (wpAny_callSpecial?_slot (name := Str.ofString "__getitem__") ht.typeIs slot_tuple_getitem (wpAny_call_entry slot_tuple_getitem ht.typeIs PyProof.Rows.entry_tuple_getitem ?_ (PyProof.Rows.args_tuple_getitem _ _)))
  show wpAny _ _ (Builtin.Tuple.tupleItemsOf (.ref t) >>= _) _ _ s
  refine wpAny_bind (tupleItemsOf_ ht (wpAny_bind (wpAny_typeOf hTs ?_)))
  rw [if_pos (by decide)]
  refine wpAny_bind (applied_back (n := items.size) hs ps ?_)
  show wpAny _ _ (if ((((items.size : Int) - 1) == 0 && (-1 : Int) == 1 && items.size == items.size) = true) then _ else _) _ _ s
  rw [if_neg (by simp), pick_back]
  first
    | exact wpAny_bind (m := Builtin.Tuple.tupleExact _) (wpAny_newObj_type (wpAny_pure ⟨_, rfl, wpAny_pure h⟩) hok)
    | exact wpAny_bind (m := Builtin.Tuple.tupleExact _) (wpAny_newObj_type (wpAny_bind (wpAny_pure (wpAny_pure ⟨_, rfl, wpAny_pure h⟩))) hok)
end
section
variable {X : Cx}
def tRevT (K : PySem.W.Frag) (te : TE) : TE := fun σ H Q => te σ H fun x H1 => ∃ a xs, x = .ref a ∧ SqT K H1 a xs ∧ ∀ p, H1 p = Option.none → Q (.ref p) (upd H1 p (.tup xs.reverse))
theorem pe_revT {e : Expr} {te : TE} {k : Nat} {p1 p2 p3 pos : Pos} (he : PE X e te) : PE X (.Subscript e (.Slice none none (some (.UnaryOp .USub (.Constant (.int 1) k p1) p2)) p3) pos) (tRevT X.K te) := by
  refine ⟨fun pins s σ H Q I h => ?_⟩
  refine Subscript_ (thn (he.run pins s σ H _ I h) fun v s1 hz => ?_)
  obtain ⟨x, H1, I1, r1, a, xs, ex, hx, q⟩ := hz
  subst ex
  cases r1
  have hst : PO X (some (.UnaryOp .USub (.Constant (.int 1) k p1) p2)) (tPart (tUn (rU fun i => .int (-i)) (tC (.int 1)))) := po_some (pe_un un_neg pe_int)
  refine wpAny_Slice (thn (po_none.run pins s1 σ H1 (fun o H2 => o = none ∧ H2 = H1) I1 ⟨rfl, rfl⟩) fun vl s2 hz => ?_)
  obtain ⟨l, H2, I2, pl, el, e2⟩ := hz
  subst el e2
  refine thn (po_none.run pins s2 σ H2 (fun o H3 => o = none ∧ H3 = H2) I2 ⟨rfl, rfl⟩) fun vu s3 hz => ?_
  obtain ⟨u, H3, I3, pu, eu, e3⟩ := hz
  subst eu e3
  refine thn (hst.run pins s3 σ H3 (fun o H4 => o = some (-1) ∧ H4 = H3) I3 ⟨1, rfl, -1, rfl, rfl, rfl⟩) fun vs s4 hz => ?_
  obtain ⟨o, H4, I4, ps, eo, e4⟩ := hz
  subst eo e4
  cases pl
  cases pu
  have I5 : Inv X pins σ H4 { s4 with heap := s4.heap.push { cls := .type "slice", data := .fields #[.none, .none, vs] } } := I4.kept (t' := s4.toks) fun b ob q => Heap.get?_push_of_some _ q
  obtain ⟨its, r, ht, hz⟩ := I5.tuple hx
  have hlen := r.length
  show wpAny (model X.prog X.w) X.A (subscriptTail e (.Slice none none (some (.UnaryOp .USub (.Constant (.int 1) k p1) p2)) p3) (.ref a) (.ref s4.heap.objs.size)) (EP X pins σ Q) X.xe
    { s4 with heap := s4.heap.push { cls := .type "slice", data := .fields #[.none, .none, vs] } }
  refine tail_any (ops := [.ref a, .ref s4.heap.objs.size]) ht.typeIs slot_tuple_getitem.lookup ?_ (by with_unfolding_all rfl)
  refine getItem_tuple_back ht (Heap.IsSliceOf.new _ .none .none vs) ps ?_ (by rw [List.size_toArray]; omega)
  refine ⟨.ref _, _, I5.laid (t' := s4.toks) (o := .tup xs.reverse) (fun b ob q => Heap.get?_push_of_some _ q) (Nat.le_refl _) ?_, rfl, q _ (I5.hok.fresh (Nat.le_refl _))⟩
  exact ⟨by rw [List.length_reverse]; exact hz, its.reverse, r.reverse, IsTup.new _ _⟩
end

/-! ### enumerate over a tuple -/
theorem enum_new1 {v : Value} {o : Obj} {G : Heap → Prop} (B : Begins v o G) :
    Meets (Builtin.«enumerate.__new__» ⟨[.type "enumerate", v], []⟩) (fun _ R s => G s.heap ∧
      R (.ok (.ret (.ref (s.heap.push o).objs.size))) { s with heap := (s.heap.push o).push { cls := .type "enumerate", data := .fields #[.none, .bool false, .ref s.heap.objs.size, rawInt 0, .none, .none] } }) :=
  .of_wp fun prog w A R s h => by
    obtain ⟨hp, g, d, tk, os⟩ := s
    obtain ⟨h1, h2⟩ := h
    have hsub := sub_enumerate
    have it : ∀ {A' : Around} {E : Value → Shared → Prop} {Q : Value → Shared → Prop}, Q (.ref hp.objs.size) ⟨hp.push o, g, d, tk, os⟩ → wpAny (model prog w) A' (pyIter v) Q E ⟨hp, g, d, tk, os⟩ :=
      fun q => B.iter prog w _ _ ⟨hp, g, d, tk, os⟩ _ h1 q
    wp_walk using it
    refine wpAny_stack_any fun st => wpAny_pure ?_
    split
    · rename_i c _ _ _ _ _
      cases (c == Value.type "enumerate") <;> (wp_walk using it; exact ⟨_, rfl, h2⟩)
    · wp_walk using it
      exact ⟨_, rfl, h2⟩
section
variable {prog : Program} {w : World} {A : Around} {E : Value → Shared → Prop} {s : Shared}
theorem call_enum1 {v : Value} {o : Obj} {G : Heap → Prop} {Q : Value → Shared → Prop} (B : Begins v o G) (h1 : G s.heap)
    (h : ∀ h', IsEnum h' (s.heap.objs.size + 1) s.heap.objs.size 0 .none → h'.get? s.heap.objs.size = some o → h'.objs.size = s.heap.objs.size + 2 →
      (∀ b o, s.heap.get? b = some o → h'.get? b = some o) → Q (.ref (s.heap.objs.size + 1)) { s with heap := h' }) :
    wpAny (model prog w) A (call (.type "enumerate") [v]) Q E s := by
  refine callType_new F.called_enumerate (by decide) (F.typeCall_enumerate_1 _) (F.newCall_enumerate_1 _) (fun obj => F.args_object_init_2 obj _) F.entry_enumerate_new (enum_new1 B) ⟨h1, ?_⟩
  have hz : (s.heap.push o).objs.size = s.heap.objs.size + 1 := Heap.size_push ..
  rw [hz]
  have he : IsEnum ((s.heap.push o).push { cls := .type "enumerate", data := .fields #[.none, .bool false, .ref s.heap.objs.size, rawInt 0, .none, .none] }) (s.heap.objs.size + 1) s.heap.objs.size 0 .none := by
    have e := Heap.get?_push_size (s.heap.push o) (o := { cls := .type "enumerate", data := .fields #[.none, .bool false, .ref s.heap.objs.size, rawInt 0, .none, .none] }) rfl
    rw [hz] at e
    exact e
  exact ⟨⟨_, he, rfl⟩, h _ he (Heap.get?_push_of_some _ (Heap.get?_push_size _ B.free)) (by rw [Heap.size_push, hz]) fun b o x => Heap.get?_push_of_some _ (Heap.get?_push_of_some _ x)⟩
end
/-- the tuple at a, each item in a new pair with its number -/
def IteT (K : PySem.W.Frag) (a : Addr) : It :=
  ⟨fun i H => ∃ (xs : List V) (x : V), SqT K H a xs ∧ xs[i]? = some x, fun i H v H' => ∃ T x, v = .ref T ∧ H T = Option.none ∧ H' = upd H T (.tup [.int (i : Nat), x]) ∧ ∀ xs, SqT K H a xs → xs[i]? = some x,
    fun i H => ∃ xs : List V, SqT K H a xs ∧ xs.length ≤ i⟩
theorem turn_enumT {P : Program} {w : World} {K : PySem.W.Frag} {elts : List Expr} {kk : Nat} {tpos : Pos} (a e it : Addr) :
    Turn P w K (.Tuple elts kk tpos) (IteT K a) [e, it] e (fun i h => (∃ old, IsEnum h e it ((i : Nat) : Int) old) ∧ h.IsTupleIter it a i ∧ e ≠ it ∧ a ≠ it ∧ a ≠ e) where
  mem := by simp
  obj := fun i h st b hb => by
    obtain ⟨⟨old, he⟩, ⟨o, ho, hc, hd⟩, _⟩ := st
    rcases (show b = e ∨ b = it by simpa using hb) with z | z
    · rw [z]; exact ⟨_, he, fun v q => nomatch q⟩
    · rw [z]; exact ⟨o, ho, fun v q => by rw [hd] at q; cases q⟩
  keep := fun i h h' st k => let ⟨⟨old, he⟩, hi, hne⟩ := st; ⟨⟨old, k e (by simp) _ he⟩, hi.at fun o q => k it (by simp) o q, hne⟩
  item := by
    intro X hP hw hK hc i pins s σ H E I hf st hg
    subst hP hw hK
    obtain ⟨⟨old, he⟩, hit, hne, hai, hae⟩ := st
    obtain ⟨xs, x, hq, hx⟩ := hg
    obtain ⟨its, rv, p, hz⟩ := I.tuple hq
    obtain ⟨u, hu, ru⟩ := rv.get hx
    have hel : e < s.heap.objs.size := Heap.lt_size he
    have hil : it < s.heap.objs.size := by obtain ⟨_, q, _⟩ := hit; exact Heap.lt_size q
    have hlt : i < its.toArray.size := by
      rw [List.size_toArray]
      exact (List.getElem?_eq_some_iff.mp hu).1
    refine wpAny_pyNext_enum_itemD (Draws.tuple (prog := X.prog) (w := X.w) (A := X.A.in1) (I.ok.hd hc) it a hai its.toArray) he ⟨hit, p⟩ hlt hne (by simp [hne, Ne.symm hae]) fun y h' tk hy ho hst hT hsz hk => ?_
    have ey : y = u := by
      have q : its[i]? = some y := by simpa using hy
      rw [hu] at q
      exact (Option.some.inj q).symm
    subst ey
    refine ⟨_, rfl, wpAny_letOwnedTupleGo_enum (s := { s with heap := h', toks := tk + 1 }) ho fun h'' he' sb => ?_⟩
    have hT2 : h''.get? s.heap.objs.size = some { cls := .type "tuple", data := .seq #[.int i tk, y] } := (sb.2 _ (Nat.ne_of_gt hel)).trans hT
    have new : ObjOk X.prog X.w (upd H s.heap.objs.size (.tup [.int (i : Nat), x])) h'' s.heap.objs.size (.tup [.int (i : Nat), x]) :=
      ⟨by show 2 ≤ sizeLine; decide, [.int i tk, y], .cons ⟨_, rfl⟩ (.cons ru .nil), ⟨_, hT2, rfl, _, rfl⟩⟩
    have I1 : Inv X pins σ (upd H s.heap.objs.size (.tup [.int (i : Nat), x])) { s with heap := h'', toks := tk + 1 } :=
      I.turnedNew (ch := [e, it]) (fun b ob hb q => (sb.2 b (fun z => hb (by simp [z]))).trans (hk b ob (fun z => hb (by simp [z])) (fun z => hb (by simp [z])) q)) hf (Nat.le_refl _) new
    refine ⟨.ref s.heap.objs.size, _, I1, rfl, ⟨_, x, rfl, I.hok.fresh (Nat.le_refl _), rfl, fun ys hy => by rw [I.tuple_inj hy hq]; exact hx⟩, ⟨⟨y, ?_⟩, hst.1.at fun o q => (sb.2 it (Ne.symm hne)).trans q, hne, hai, hae⟩, fun b hb => ?_⟩
    · have e1 : ((i + 1 : Nat) : Int) = (i : Int) + 1 := by omega
      rw [e1]; exact he'
    · have hb' : b < s.heap.objs.size := by
        rcases (show b = e ∨ b = it by simpa using hb) with z | z
        · rw [z]; exact hel
        · rw [z]; exact hil
      rw [upd_ne (Nat.ne_of_lt hb')]
      exact (hf b hb).1
  done := by
    intro X hP hw hK hc i pins s σ H E I hf st hg
    subst hP hw hK
    obtain ⟨⟨old, he⟩, hit, hne, hai, hae⟩ := st
    obtain ⟨xs, hq, hx⟩ := hg
    obtain ⟨its, rv, p, hz⟩ := I.tuple hq
    obtain ⟨f0, f1, f2, f3, f4, f5⟩ := hf it (by simp)
    have hl := rv.length
    have D : Draws X.prog X.w X.A.in1 it [it, a] i (fun _ _ => False) (fun j h => j = i ∧ h.IsTupleIter it a i ∧ h.IsTuple a its.toArray) :=
      { live := fun _ _ st => let ⟨o, ho, _⟩ := st.2.1; ⟨o, ho⟩
        frame := fun _ _ _ st hk => ⟨st.1, st.2.1.at fun o e => hk it (by simp) o e, st.2.2.at fun o e => hk a (by simp) o e⟩
        item := fun j s Q E hj st => absurd hj (by rw [st.1]; exact Nat.lt_irrefl _)
        done := fun s Q E st hE => wpAny_nextOf_tuple_end (I.ok.hd hc) st.2.1 st.2.2 (by simp; omega) hE }
    exact wpAny_pyNext_enum_endD D he ⟨rfl, hit, p⟩ fun h' eb => ⟨rfl, I.turned (t' := s.toks) (fun b o hb q => eb b o hb q) f0 f1 f3 f4 f5⟩
  self := fun A i s Q E st h => let ⟨⟨_, he⟩, _⟩ := st; wpAny_pyIter_enum he h
def iEnumT (K : PySem.W.Frag) (ta : TA) : TI := fun σ H R => ta σ H fun vs H1 => ∃ a xs, vs = [.ref a] ∧ SqT K H1 a xs ∧ R (IteT K a) H1
theorem pi_enumT {X : Cx} {e : Expr} {ta : TA} {p pos tpos : Pos} {elts : List Expr} {kk : Nat} (hg : Gl X "enumerate") (hm : X.mg "enumerate" = none) (ha : PA X [e] ta) (hs : starEach [e] X.env = [(false, eval e X.env)] := by rfl) :
    PI X (.Tuple elts kk tpos) (.Call (.Name "enumerate" p) [e] [] pos) (iEnumT X.K ta) := by
  refine ⟨fun pins s σ H R I h => ?_⟩
  refine Call_ (ld_blt I hg hm boot_enumerate (PyProof.Rows.callWith_type1 (thn (ha.run pos pins s σ H _ I h) fun us s1 hz => ?_) hs rfl))
  obtain ⟨vs, H1, I1, r1, a, xs, ex, hq, q⟩ := hz
  subst ex
  cases r1 with
  | cons r rr =>
    cases rr
    cases r
    obtain ⟨its, rv, p', hz⟩ := I1.tuple hq
    refine call_enum1 (begins_tuple a its.toArray) p' fun h' he hit hsz hk => wpAny_pyIter_enum he ?_
    have hal : a < s1.heap.objs.size := p'.lt
    refine ⟨s1.heap.objs.size + 1, [s1.heap.objs.size + 1, s1.heap.objs.size], _, _, H1, rfl, I1.kept (t' := s1.toks) hk, turn_enumT a (s1.heap.objs.size + 1) s1.heap.objs.size,
      ⟨⟨.none, he⟩, ⟨_, hit, rfl, rfl⟩, Nat.succ_ne_self _, Nat.ne_of_lt hal, Nat.ne_of_lt (Nat.lt_succ_of_lt hal)⟩, fun b hb => ?_, q⟩
    have hle : s1.heap.objs.size ≤ b := by
      rcases (show b = s1.heap.objs.size + 1 ∨ b = s1.heap.objs.size by simpa using hb) with z | z
      · rw [z]; exact Nat.le_add_right _ _
      · rw [z]; exact Nat.le_refl _
    exact I1.fpOk hle (I1.hok.fresh hle)
theorem walk_enumT {K : PySem.W.Frag} {a : Addr} {xs : List V} : Walk (IteT K a) xs.length (fun H => SqT K H a xs) (YPair (fun i => some (.int (i : Nat))) (fun i => xs[i]?)) := by
  refine ⟨fun i _ hi q => ⟨xs, xs[i], q, by simp [hi]⟩, fun _ q => ⟨xs, q, Nat.le_refl _⟩, fun i H v H' _ q y => ?_⟩
  obtain ⟨T, x, h1, h2, h3, h4⟩ := y
  exact ⟨T, .int (i : Nat), x, h1, h2, h3, rfl, h4 xs q⟩
theorem walk_zipT {K : PySem.W.Frag} {a b : Addr} {xs ys : List V} {n : Nat} (hn : n = min xs.length ys.length) : Walk (RZ.ItzT K a b) n (fun H => SqT K H a xs ∧ SqT K H b ys) (YPair (fun i => xs[i]?) (fun i => ys[i]?)) := by
  subst hn
  refine ⟨fun i _ hi q => ?_, fun _ q => ⟨xs, ys, q.1, q.2, by omega⟩, fun i H v H' _ q y => ?_⟩
  · have h1 : i < xs.length := by omega
    have h2 : i < ys.length := by omega
    exact ⟨xs, ys, xs[i], ys[i], q.1, q.2, by simp [h1], by simp [h2]⟩
  · obtain ⟨T, x, z, h1, h2, h3, h4, h5⟩ := y
    exact ⟨T, x, z, h1, h2, h3, h4 xs q.1, h5 ys q.2⟩

/-! ### sorted(d.keys()) of a dict of int keys -/
section
variable {X : Cx}
/-- the view r of the keys of the dict at d -/
def ViewO (r d : Addr) : HO := .ext fun h => PySem.W.KdlKeysView h r d
def tKeys (td : TE) : TE := fun σ H Q => td σ H fun x H1 => ∃ d, x = .ref d ∧ (∃ kvs, H1 d = some (.dK kvs)) ∧ ∀ r, H1 r = Option.none → Q (.ref r) (upd H1 r (ViewO r d))
theorem pe_keys {e : Expr} {td : TE} {apos cpos : Pos} (he : PE X e td) (hbase : attributeBase e "keys" X.env (eval e X.env) = eval e X.env := by rfl) (hline : (apos.endLine == cpos.line) = true := by rfl) :
    PE X (.Call (.Attribute e "keys" apos) [] [] cpos) (tKeys td) := by
  refine ⟨fun pins s σ H Q I h => ?_⟩
  refine wpAny_Call_method (T := "dict") (id := "dict.keys") hbase rfl hline F.plainAttrs_dict F.slot_dict_keys F.type_dict_keys (thn (he.run pins s σ H _ I h) fun u s1 hz => ?_)
  obtain ⟨x, H1, I1, rx, d, ex, ⟨kvs, hd⟩, q⟩ := hz
  subst ex
  obtain rfl : u = Value.ref d := rx
  obtain ⟨z, lo, vs, rel, dd⟩ := dk_of I1.hok hd
  refine ⟨dd.typeIs, dd.mapOf.noDict, ?_⟩
  show wpAny _ _ (callWith cpos (.builtin "dict.keys") [.ref d] [] []) _ X.xe s1
  have fin : EP X pins σ Q (.ref s1.heap.objs.size) { s1 with heap := s1.heap.push { cls := .type "dict_keys", data := .fields #[.ref d] } } := by
    refine ⟨.ref s1.heap.objs.size, upd H1 s1.heap.objs.size (ViewO s1.heap.objs.size d), I1.laid (t' := s1.toks) (fun b u e => Heap.get?_push_of_some _ e) (Nat.le_refl _) ?_, rfl, q _ (I1.hok.fresh (Nat.le_refl _))⟩
    refine ⟨⟨_, Heap.get?_push_size _ rfl, rfl, rfl⟩, ⟨_, Heap.get?_push_size _ rfl⟩, fun h1 h2 a b => ?_⟩
    obtain ⟨o, ho, c⟩ := a
    exact ⟨o, b o ho, c⟩
  exact method_meetsIn F.slot_dict_keys F.entry_dict_keys rfl (PySem.evalArgs_none ⟨rfl, dd.typeIs, F.args_dict_keys_1 _, _, PySem.W.kdl_meets_keys (mixKind X.prog X.w) d lo, ⟨vs, dd⟩, fin⟩)
theorem call_sortedK (hcalm : X.calm = true) : CallR X (.builtin "sorted") (fun xs H Q => ∃ (r d : Addr) (kvs : List (Key × V)) (ks : List Int), xs = [.ref r] ∧ H r = some (ViewO r d) ∧ H d = some (.dK kvs) ∧ kvs.map (·.1) = ks.map Sum.inl ∧ ks.length < 64 ∧
    ∀ (ys : List Int) (p : Addr), ys.Perm ks → ys.Pairwise (· ≤ ·) → H p = Option.none → Q (.ref p) (upd H p (.lst (ys.map V.int)))) := by
  intro pins s σ H xs us Q I rr q
  obtain ⟨r, d, kvs, ks, ex, hr, hd, hks, h64, q⟩ := q
  subst ex
  obtain ⟨u, eu, rx⟩ := vals1 rr
  subst eu
  cases rx
  have hv : PySem.W.KdlKeysView s.heap r d := (I.hok r _ hr).1
  obtain ⟨z, lo, vs, rel, dd⟩ := dk_of I.hok hd
  obtain ⟨ep, hat⟩ := dd.dictAt
  have hkeys : vs.map (·.1) = ks.map Sum.inl := rel.keys.symm.trans hks
  have hl : vs.length = ks.length := by simpa using congrArg List.length hkeys
  have h16 : vs.length ≤ sizeLine := by rw [hl, sizeLine_eq]; omega
  refine Calls.call_function_entry PyProof.Rows.kind_sorted PyProof.Rows.plain_sorted PyProof.Rows.entry_sorted (PyProof.Rows.args_sorted1 _) ?_
  unfold Builtin.«sorted»
  refine wpAny_bind (m := checkCount "sorted" 1 1 _) (wpAny_pure ?_)
  refine wpAny_bind (PySem.W.kdu_collect (A := X.A.in1) (PySem.W.kdl_keys (knd := mixKind X.prog X.w) (r := r) (d := d) (kvs := vs) (ep := ep)) (I.ok.hd hcalm) ⟨hv, hat⟩ h16 fun h' tk acc hk hacc => ?_)
  have hal : acc.toList.length = ks.length := by rw [Array.length_toList, hacc.1, hl]
  have hS : IntsAre acc.toList ks := ints_each hal fun j v e => by
    obtain ⟨k, x, e1, e2⟩ := hacc.2 j v (by rw [← Array.getElem?_toList]; exact e)
    have e3 : (vs.map (·.1))[j]? = some k := by rw [List.getElem?_map, e1]; rfl
    rw [hkeys, List.getElem?_map] at e3
    obtain ⟨y, ey, e4⟩ := Option.map_eq_some_iff.mp e3
    subst e4
    rcases keyIs_shape (show keyIs (Sum.inl y) v = true from e2) with ⟨i, t, ek, ev⟩ | ⟨_, t, ek, ev⟩
    · cases ek
      exact ⟨y, t, ey, ev⟩
    · cases ek
  have I1 : Inv X pins σ H { s with heap := h', toks := tk } := I.kept hk
  refine wpAny_bind (wpAny_newList ?_ (by rw [hal, sizeLine_eq]; omega))
  have hoL : (h'.push (seqObj "list" acc.toList.toArray 0)).get? h'.objs.size = some (seqObj "list" acc.toList.toArray 0) := Heap.get?_push_size _ rfl
  show wpAny _ _ _ _ _ { s with heap := h'.push (seqObj "list" acc.toList.toArray 0), toks := tk }
  refine wpAny_bind (wpAny_holding (wpAny_call_entry PyProof.Rows.slot_list_sort ⟨_, hoL, rfl⟩ PyProof.Rows.entry_list_sort
    (PyProof.Rows.list_sort_tree (s := { s with heap := h'.push (seqObj "list" acc.toList.toArray 0), toks := tk }) hoL hS (by rw [hal]; exact h64) fun out ys g1 g2 g3 => ⟨_, rfl, ?_⟩) (PyProof.Rows.args_list_sort _)))
  obtain ⟨e', he'⟩ := PyProof.Rows.sortedHeap_at (vs := acc.toList) (out := out) hoL
  have hlen : (ys.map V.int).length ≤ sizeLine := by
    rw [List.length_map, g2.length_eq]
    exact Nat.le_trans (Nat.le_of_lt h64) (by decide)
  refine wpAny_pure ⟨_, rfl, .ref h'.objs.size, upd H h'.objs.size (.lst (ys.map V.int)), I1.laid (t' := tk) (fun b u e => ?_) (Nat.le_refl _)
    (show ObjOk X.prog X.w _ _ _ (.lst (ys.map V.int)) from ⟨hlen, out.toList, e', vals_of_ints g1, by rw [Array.toArray_toList]; exact he'⟩), rfl, q ys _ g2 g3 (I1.hok.fresh (Nat.le_refl _))⟩
  have hb : b < h'.objs.size := Heap.lt_size e
  rw [PyProof.Rows.sortedHeap_old (Nat.ne_of_lt hb) (by rw [size_push']; exact Nat.lt_succ_of_lt hb)]
  exact Heap.get?_push_of_some _ e
end
end Cm

/-! a dict of things by births -/
namespace Cm
open PySem L2
/-- a thing: a word, then data without lists -/
def windD (b : Int) : PyData := .tuple [.str "wind", .int (1000 + b), .int (2000 + b)]
def wordD : PyData → Str
  | .tuple (.str x :: _) => x
  | _ => ""
structure Th (b : Int) (d : PyData) : Prop where
  ex : ∃ (wd : Str) (r : List PyData), d = .tuple (.str wd :: r)
  fl : flatD d = true
  ok : okD d = true
  dp : d.depth ≤ 8
  wt : d.weight ≤ 4000
  wn : wordD d = "wind" → d = windD b
/-- the dict at d holds es -/
structure ThAt (K : PySem.W.Frag) (H : Hp) (d : Addr) (es : List (Int × PyData)) (kvs : List (Key × V)) : Prop where
  at_ : H d = some (.dK kvs)
  ks : kvs.map (·.1) = es.map (fun e => Sum.inl e.1)
  vs : DpAll K H (kvs.map (·.2)) (es.map (·.2))
  th : ∀ e ∈ es, Th e.1 e.2
def thg (es : List (Int × PyData)) (b : Int) : PyData := ((es.find? fun e => decide (e.1 = b)).map (·.2)).getD .none
def word (es : List (Int × PyData)) (b : Int) : Str := wordD (thg es b)
theorem th_find {K : PySem.W.Frag} {H : Hp} (b : Int) : ∀ (es : List (Int × PyData)) (kvs : List (Key × V)), kvs.map (·.1) = es.map (fun e => (Sum.inl e.1 : Key)) → DpAll K H (kvs.map (·.2)) (es.map (·.2)) →
    b ∈ es.map (·.1) → ∃ v, valV kvs (Sum.inl b) = some v ∧ Dp K H v (thg es b) ∧ (b, thg es b) ∈ es
  | [], _, _, _, m => by simp at m
  | e :: es, kvs, hk, hv, m => by
    cases kvs with
    | nil => simp at hk
    | cons a kvs =>
      simp only [List.map_cons, List.cons.injEq] at hk
      cases hv with
      | cons h1 h2 =>
        by_cases q : e.1 = b
        · refine ⟨a.2, ?_, ?_, ?_⟩
          · unfold valV
            rw [List.find?_cons_of_pos (by rw [hk.1, q]; simp)]
            rfl
          · have : thg (e :: es) b = e.2 := by
              unfold thg
              rw [List.find?_cons_of_pos (by simp [q])]
              rfl
            rw [this]
            exact h1
          · have : thg (e :: es) b = e.2 := by
              unfold thg
              rw [List.find?_cons_of_pos (by simp [q])]
              rfl
            rw [this, ← q]
            exact List.mem_cons_self
        · have m' : b ∈ es.map (·.1) := by
            simp only [List.map_cons, List.mem_cons] at m
            rcases m with m | m
            · exact absurd m.symm q
            · exact m
          obtain ⟨v, g1, g2, g3⟩ := th_find b es kvs hk.2 h2 m'
          have e2 : thg (e :: es) b = thg es b := by
            unfold thg
            rw [List.find?_cons_of_neg (by simpa using q)]
          refine ⟨v, ?_, by rw [e2]; exact g2, by rw [e2]; exact List.mem_cons_of_mem _ g3⟩
          unfold valV at g1 ⊢
          rw [List.find?_cons_of_neg (by rw [hk.1]; simpa using q)]
          exact g1
theorem ThAt.get {K : PySem.W.Frag} {H : Hp} {d : Addr} {es : List (Int × PyData)} {kvs : List (Key × V)} (x : ThAt K H d es kvs) {b : Int} (m : b ∈ es.map (·.1)) :
    ∃ (p : Addr) (its : List V), DGet H d (.int b) (some (.ref p)) ∧ SqT K H p its ∧ atI its 0 = some (.str (word es b)) ∧ Dp K H (.ref p) (thg es b) ∧ Th b (thg es b) := by
  obtain ⟨v, h1, h2, h3⟩ := th_find b es kvs x.ks x.vs m
  have t : Th b (thg es b) := x.th _ h3
  obtain ⟨wd, r, ed⟩ := t.ex
  have h2' := h2
  have e3 : word es b = wd := by
    unfold word
    rw [ed]
    rfl
  rw [ed] at h2'
  cases h2' with
  | @tup a its ds hs ha =>
    refine ⟨a, its, ?_, hs, ?_, by rw [ed]; exact .tup hs ha, t⟩
    · have q := DGet.k (k := Sum.inl b) x.at_
      rw [h1] at q
      exact q
    · rw [e3]
      cases ha with
      | cons q1 q2 =>
        cases q1
        exact atI_nat (j := 0) rfl
theorem putK_end {kvs : List (Key × V)} {k : Key} {v : V} (h : ∀ p ∈ kvs, p.1 ≠ k) : putK kvs k v = kvs ++ [(k, v)] := by
  unfold putK
  rw [if_neg]
  intro q
  obtain ⟨p, hp, e⟩ := List.any_eq_true.mp q
  exact h p hp (of_decide_eq_true e)
theorem decS {x y : Str} : decide (V.str x = V.str y) = decide (x = y) := by
  by_cases q : x = y
  · rw [q]; simp
  · rw [decide_eq_false q, decide_eq_false (fun z => q (V.str.inj z))]
theorem ThAt.same {K : PySem.W.Frag} {H H' : Hp} {d : Addr} {es : List (Int × PyData)} {kvs : List (Key × V)} (x : ThAt K H d es kvs) (s : Same H H') : ThAt K H' d es kvs :=
  ⟨s _ _ x.at_, x.ks, dps_same s _ _ x.vs, x.th⟩
theorem flatDs_of : ∀ ds : List PyData, (∀ d ∈ ds, flatD d = true) → flatDs ds = true
  | [], _ => rfl
  | d :: ds, h => by simp [flatDs, h d List.mem_cons_self, flatDs_of ds fun x hx => h x (List.mem_cons_of_mem _ hx)]
theorem ThAt.fl {K : PySem.W.Frag} {H : Hp} {d : Addr} {es : List (Int × PyData)} {kvs : List (Key × V)} (x : ThAt K H d es kvs) : flatDs (es.map (·.2)) = true :=
  flatDs_of _ fun z hz => by
    obtain ⟨e, he, rfl⟩ := List.mem_map.mp hz
    exact (x.th e he).fl
theorem ThAt.kp {M : Addr → Prop} {K : PySem.W.Frag} {H H' : Hp} {d : Addr} {es : List (Int × PyData)} {kvs : List (Key × V)} (x : ThAt K H d es kvs) (k : Kp M H H') (n : ¬ M d) : ThAt K H' d es kvs :=
  ⟨k.st _ _ n x.at_, x.ks, dps_keep (fun _ _ h => k.tup h) _ _ x.fl x.vs, x.th⟩
theorem wt_int {i : Int} (h : i.natAbs < 10 ^ 12) : PyData.weight (.int i) ≤ 64 := by
  simp only [PyData.weight]
  split
  · omega
  · rename_i q
    have q' : i.natAbs ≠ 0 := by
      intro z
      apply q
      simp
      omega
    have := (Nat.log2_lt q').mpr (show i.natAbs < 2 ^ 63 from Nat.lt_of_lt_of_le h (by decide))
    omega
theorem ThAt.snoc {K : PySem.W.Frag} {H : Hp} {d : Addr} {es : List (Int × PyData)} {kvs : List (Key × V)} (x : ThAt K H d es kvs) {b : Int} {v : V} {t : PyData} (n : b ∉ es.map (·.1)) (hv : Dp K H v t) (ht : Th b t) :
    ThAt K (upd H d (.dK (putK kvs (Sum.inl b) v))) d (es ++ [(b, t)]) (putK kvs (Sum.inl b) v) := by
  have e1 : putK kvs (Sum.inl b) v = kvs ++ [(Sum.inl b, v)] := putK_end fun p hp q => n (by
    have : p.1 ∈ kvs.map (·.1) := List.mem_map.mpr ⟨p, hp, rfl⟩
    rw [x.ks] at this
    obtain ⟨e, he, e2⟩ := List.mem_map.mp this
    rw [q] at e2
    exact List.mem_map.mpr ⟨e, he, Sum.inl.inj e2⟩)
  have keep : ∀ a xs, SqT K H a xs → SqT K (upd H d (.dK (putK kvs (Sum.inl b) v))) a xs := fun a xs h => by
    rcases h with (h | ⟨o, h⟩) | h
    · exact .inl (.inl (by rw [upd_ne (ne_of h x.at_ (by intro z; cases z))]; exact h))
    · exact .inl (.inr ⟨o, by rw [upd_ne (ne_of h x.at_ (by intro z; cases z))]; exact h⟩)
    · exact .inr h
  refine ⟨upd_same, ?_, ?_, ?_⟩
  · rw [e1, List.map_append, List.map_append, x.ks]
    rfl
  · have h1 := dps_keep keep _ _ x.fl x.vs
    have h2 := dp_keep keep _ _ ht.fl hv
    rw [show (putK kvs (Sum.inl b) v).map (·.2) = kvs.map (·.2) ++ [v] by rw [e1, List.map_append]; rfl, List.map_append]
    exact DpAll.snoc h2 h1
  · intro e he
    rcases List.mem_append.mp he with he | he
    · exact x.th e he
    · cases List.mem_singleton.mp he
      exact ht
theorem Kp.mut {M : Addr → Prop} {H H' : Hp} {d : Addr} {o : HO} (k : Kp M H H') (hd : H d = Option.none) : Kp M H (upd H' d o) :=
  ⟨fun a u n e => by
    rw [upd_ne (ne_of_none e hd)]
    exact k.st a u n e, k.l1, fun a m => by
    have q : a ≠ d := fun q => k.m_of hd (q ▸ m)
    rw [upd_ne q]
    exact k.l2 a m⟩
theorem Hand.put {H : Hp} {h c d : Addr} {o : HO} (x : Hand H h c) (n : ∀ xs, H d ≠ some (.lst xs)) : Hand (upd H d o) h c := by
  obtain ⟨cells, i, b, t, e1, e2, q⟩ := x
  refine ⟨cells, i, b, t, ?_, ?_, q⟩
  · rw [upd_ne (fun z => n _ (z ▸ e1))]
    exact e1
  · rw [upd_ne (fun z => n _ (z ▸ e2))]
    exact e2
theorem Hand.puts {H : Hp} {h c d : Addr} {o : HO} (x : Hand H h c) (n1 : d ≠ h) (n2 : d ≠ c) : Hand (upd H d o) h c := by
  obtain ⟨cells, i, b, t, e1, e2, q⟩ := x
  exact ⟨cells, i, b, t, by rw [upd_ne (Ne.symm n1)]; exact e1, by rw [upd_ne (Ne.symm n2)]; exact e2, q⟩
theorem Hand.there {H : Hp} {h c d : Addr} (x : Hand H h c) (n : H d = Option.none) : d ≠ h ∧ d ≠ c := by
  obtain ⟨cells, i, b, t, e1, e2, q⟩ := x
  exact ⟨(ne_of_none e1 n).symm, (ne_of_none e2 n).symm⟩
theorem Hand.ne {H : Hp} {h c d : Addr} (x : Hand H h c) (n : ∀ xs, H d ≠ some (.lst xs)) : d ≠ h := fun z => by
  obtain ⟨xs, e⟩ := x.lst
  exact n xs (z ▸ e)
/-- 1 .. n -/
def births (n : Nat) : List Int := (List.range n).map fun (i : Nat) => (i : Int) + 1
theorem births_succ (n : Nat) : births (n + 1) = births n ++ [(n : Int) + 1] := by
  unfold births
  rw [List.range_succ, List.map_append]
  rfl
theorem births_mem {n : Nat} {b : Int} : b ∈ births n ↔ 1 ≤ b ∧ b ≤ n := by
  unfold births
  rw [List.mem_map]
  constructor
  · rintro ⟨i, hi, rfl⟩
    have := List.mem_range.mp hi
    omega
  · intro q
    exact ⟨(b - 1).toNat, List.mem_range.mpr (by omega), by omega⟩
/-- a new thing is put at the next birth -/
theorem things_put {K : PySem.W.Frag} {H H3 : Hp} {h c d : Addr} {es : List (Int × PyData)} {kvs : List (Key × V)} {i : Nat} {v : V} {t : PyData} (kh : Kh h H H3) (hh : Hand H3 h c) (x : ThAt K H3 d es kvs) (hd : H d = Option.none)
    (hk : es.map (·.1) = births i) (hi : i < 1000) (hv : Dp K H3 v t) (ht : Th (1 + i) t) :
    ∃ H4 es' kvs', DPut H3 d (.int (1 + (i : Nat))) v H4 ∧ Kh h H H4 ∧ Hand H4 h c ∧ ThAt K H4 d es' kvs' ∧ es'.map (·.1) = births (i + 1) := by
  have hb : (1 : Int) + i ∉ es.map (·.1) := by
    rw [hk, births_mem]
    omega
  have hl : kvs.length < sizeLine := by
    have e := congrArg List.length x.ks
    rw [List.length_map, List.length_map] at e
    have e2 := congrArg List.length hk
    rw [List.length_map] at e2
    have e3 : (births i).length = i := by unfold births; rw [List.length_map, List.length_range]
    rw [e, e2, e3]
    exact Nat.lt_trans hi (by decide)
  refine ⟨_, _, _, DPut.k (k := Sum.inl (1 + (i : Int))) x.at_ hl, kh.mut hd, hh.put (fun xs e => by rw [x.at_] at e; cases e), x.snoc hb hv ht, ?_⟩
  rw [List.map_append, hk, births_succ]
  show births i ++ [1 + (i : Int)] = _
  rw [show (1 : Int) + i = i + 1 by omega]
theorem births_len (n : Nat) : (births n).length = n := by
  unfold births
  rw [List.length_map, List.length_range]
end Cm

/-! comprehensions over data -/
namespace Cm
open PySem L2
theorem sqt_put {K : PySem.W.Frag} {H : Hp} {D a : Addr} {xs ys zs : List V} (h : H D = some (.lst ys)) (q : SqT K H a xs) : SqT K (upd H D (.lst zs)) a xs := by
  rcases q with (q | ⟨o, q⟩) | q
  · exact .inl (.inl (by rw [upd_ne (ne_of q h (by intro z; cases z))]; exact q))
  · exact .inl (.inr ⟨o, by rw [upd_ne (ne_of q h (by intro z; cases z))]; exact q⟩)
  · exact .inr q
theorem same_put {H H' : Hp} {D : Addr} {o : HO} (s : Same H H') (h : H D = Option.none) : Same H (upd H' D o) := fun b u e => by
  rw [upd_ne (ne_of_none e h)]
  exact s b u e
theorem sqt_same {K : PySem.W.Frag} {H H' : Hp} {a : Addr} {xs : List V} (s : Same H H') (h : SqT K H a xs) : SqT K H' a xs := by
  rcases h with (h | ⟨o, h⟩) | h
  · exact .inl (.inl (s _ _ h))
  · exact .inl (.inr ⟨o, s _ _ h⟩)
  · exact .inr h
theorem flatDs_all {ds : List PyData} (h : flatDs ds = true) : ∀ d ∈ ds, flatD d = true := by
  induction ds with
  | nil => intro d hd; cases hd
  | cons a r ih =>
    have h' : flatD a = true ∧ flatDs r = true := by simpa [flatDs] using h
    intro d hd
    rcases List.mem_cons.mp hd with rfl | hd
    · exact h'.1
    · exact ih h'.2 d hd
theorem flatDs_app {ds es : List PyData} (h1 : flatDs ds = true) (h2 : flatDs es = true) : flatDs (ds ++ es) = true :=
  flatDs_of _ fun d hd => by
    rcases List.mem_append.mp hd with q | q
    · exact flatDs_all h1 d q
    · exact flatDs_all h2 d q
theorem walk_upto {n : Nat} : Walk (Itr 0 n) n (fun _ => True) (YFn fun i => .int ((i : Nat) : Int)) :=
  ⟨fun _ _ hi _ => hi, fun _ _ => Nat.le_refl _, fun i H x H' _ _ y => ⟨y.1, by
    have := y.2
    rw [Int.zero_add] at this
    exact this⟩⟩
/-! ### the same rules where the context is a comprehension's block: K is said -/
section
variable {X : Cx} {K : PySem.W.Frag}
theorem kx_tup (h : X.K = K := by rfl) : IxR X (rIxT K) := by subst h; exact ix_tup
theorem kx_list (h : X.K = K := by rfl) : IxR X (rIxL K) := by subst h; exact ix_list
theorem kx_seq (h : X.K = K := by rfl) : IxR X (rIx K) := by subst h; exact ix_seq
theorem ko_eqD (hu : X.A.units + 64 < cLine) (h : X.K = K := by rfl) : OpR X (compareOp .Eq) (rEqD K) := by subst h; exact op_eqD hu
theorem ko_neD (hu : X.A.units + 64 < cLine) (h : X.K = K := by rfl) : OpR X (compareOp .NotEq) (rNeD K) := by subst h; exact op_neD hu
theorem ko_in (h : X.K = K := by rfl) : OpR X (compareOp .In) (rIn K false) := by subst h; exact op_in_seq
theorem ko_notIn (h : X.K = K := by rfl) : OpR X (compareOp .NotIn) (rIn K true) := by subst h; exact op_notIn_seq
theorem ko_catA (h : X.K = K := by rfl) : OpR X (binaryOp .Add) (rCatA K) := by subst h; exact op_catA
def rLen (K : PySem.W.Frag) : List V → Hp → VK → Prop := fun xs H Q => ∃ p ys, xs = [.ref p] ∧ (SqL K H p ys ∨ SqT K H p ys) ∧ Q (.int ys.length) H
theorem kc_len (h : X.K = K := by rfl) : CallR X (.builtin "len") (rLen K) := by subst h; exact call_len_seq
end
/-- a comprehension whose items are data without lists: R i is the i-th turn's, none if it is left out -/
theorem lc_data {K : PySem.W.Frag} {J : It} {n : Nat} {G : Hp → Prop} {Y : Nat → Hp → V → Hp → Prop} (wk : Walk J n G Y) {g : TG} {tt : TT} {te : TE} {vs : List Nat} {σ : L2.St} {H1 : Hp} {D : Addr} {Qd : Hp → Prop} (R : Nat → Option PyData)
    (hD : H1 D = Option.none) (hn : n ≤ 100000) (hG : ∀ H, Same H1 H → G H) (hfl : ∀ i < n, ∀ d, R i = some d → flatD d = true)
    (hs : ∀ i x H H', i < n → Same H1 H → Y i H x H' → ∀ (Q1 : VK) (Q0 : Hp → Prop), (∀ v H4 d, R i = some d → Same H H4 → Dp K H4 v d → Q1 v H4) → (∀ H3, R i = none → Same H H3 → Q0 H3) →
      g x (wipe σ vs) H' fun σ2 H2 => wipe σ2 vs = wipe σ vs ∧ tt σ2 H2 fun b H3 => if b = true then te σ2 H3 Q1 else Q0 H3)
    (hd : ∀ H acc, Same H1 H → H D = some (.lst acc) → DpAll K H acc ((List.range n).filterMap R) → Qd H) :
    ∃ W : Nat → Nat → Hp → Prop, (∃ m, W 0 m (upd H1 D (.lst []))) ∧ ∀ i m H, W i m H →
      (J.stop i H ∧ Qd H) ∨ (J.go i H ∧ ∃ Nx : Hp → Prop, (∀ H', Nx H' → ∃ m', m' < m ∧ W (i + 1) m' H') ∧ ∀ x H', J.yld i H x H' → g x (wipe σ vs) H' fun σ2 H2 => wipe σ2 vs = wipe σ vs ∧ tt σ2 H2 fun b H3 =>
        if b = true then te σ2 H3 fun y H4 => ∃ acc, H4 D = some (.lst acc) ∧ acc.length < sizeLine ∧ Nx (upd H4 D (.lst (acc ++ [y]))) else Nx H3) := by
  have fl : ∀ i ≤ n, flatDs ((List.range i).filterMap R) = true := fun i hi => flatDs_of _ fun d hd => by
    obtain ⟨j, hj, e⟩ := List.mem_filterMap.mp hd
    exact hfl j (by have := List.mem_range.mp hj; omega) d e
  refine lc_it wk (fun i H => ∃ acc, Same H1 H ∧ H D = some (.lst acc) ∧ DpAll K H acc ((List.range i).filterMap R) ∧ acc.length ≤ i) ⟨[], same_new hD, upd_same, .nil, Nat.le_refl _⟩ (fun i H _ z => ?_) ?_ ?_
  · obtain ⟨acc, s, _⟩ := z
    exact hG H s
  · rintro i x H H' hi ⟨acc, s, hacc, ha, hl⟩ y
    refine hs i x H H' hi s y _ _ (fun v H4 d e s4 hv => ?_) (fun H3 e s3 => ?_)
    · have hD4 := s4 _ _ hacc
      refine ⟨acc, hD4, Nat.lt_of_le_of_lt hl (Nat.lt_of_lt_of_le (show i < 100000 by omega) (by decide)), acc ++ [v], same_put (s.trans s4) hD, upd_same, ?_, by rw [List.length_append]; exact Nat.succ_le_succ hl⟩
      rw [List.range_succ, List.filterMap_append]
      have e1 : ([i].filterMap R) = [d] := by simp [e]
      rw [e1]
      exact DpAll.snoc (dp_keep (fun _ _ q => sqt_put hD4 q) _ _ (hfl i hi d e) hv) (dps_keep (fun _ _ q => sqt_put hD4 q) _ _ (fl i (by omega)) (dps_same s4 _ _ ha))
    · refine ⟨acc, s.trans s3, s3 _ _ hacc, ?_, by omega⟩
      rw [List.range_succ, List.filterMap_append]
      have e1 : ([i].filterMap R) = [] := by simp [e]
      rw [e1, List.append_nil]
      exact dps_same s3 _ _ ha
  · rintro H ⟨acc, s, hacc, ha, _⟩
    exact hd H acc s hacc ha
/-- a comprehension that draws: each item is data that is good -/
theorem lc_draw {K : PySem.W.Frag} {M : Addr → Prop} {J : It} {n : Nat} {G : Hp → Prop} {Y : Nat → Hp → V → Hp → Prop} (wk : Walk J n G Y) {g : TG} {tt : TT} {te : TE} {vs : List Nat} {σ : L2.St} {H1 : Hp} {D : Addr} {Qd : Hp → Prop}
    (I : Hp → Prop) (Gd : PyData → Prop) (hM : ∀ a, M a → ∃ xs, H1 a = some (.lst xs)) (h0 : I (upd H1 D (.lst []))) (hI : ∀ H ys, Kp M H1 H → I H → I (upd H D (.lst ys)))
    (hD : H1 D = Option.none) (hn : n ≤ 100000) (hG : ∀ H, Kp M H1 H → I H → G H) (hfl : ∀ d, Gd d → flatD d = true)
    (hs : ∀ i x H H', i < n → Kp M H1 H → I H → Y i H x H' → ∀ (Q1 : VK) (Q0 : Hp → Prop), (∀ v H4 d, Gd d → Kp M H H4 → I H4 → Dp K H4 v d → Q1 v H4) → (∀ H3, Kp M H H3 → I H3 → Q0 H3) →
      g x (wipe σ vs) H' fun σ2 H2 => wipe σ2 vs = wipe σ vs ∧ tt σ2 H2 fun b H3 => if b = true then te σ2 H3 Q1 else Q0 H3)
    (hd : ∀ H acc ds, Kp M H1 H → I H → H D = some (.lst acc) → DpAll K H acc ds → (∀ d ∈ ds, Gd d) → ds.length ≤ n → Qd H) :
    ∃ W : Nat → Nat → Hp → Prop, (∃ m, W 0 m (upd H1 D (.lst []))) ∧ ∀ i m H, W i m H →
      (J.stop i H ∧ Qd H) ∨ (J.go i H ∧ ∃ Nx : Hp → Prop, (∀ H', Nx H' → ∃ m', m' < m ∧ W (i + 1) m' H') ∧ ∀ x H', J.yld i H x H' → g x (wipe σ vs) H' fun σ2 H2 => wipe σ2 vs = wipe σ vs ∧ tt σ2 H2 fun b H3 =>
        if b = true then te σ2 H3 fun y H4 => ∃ acc, H4 D = some (.lst acc) ∧ acc.length < sizeLine ∧ Nx (upd H4 D (.lst (acc ++ [y]))) else Nx H3) := by
  have nM : ¬ M D := fun m => by
    obtain ⟨xs, e⟩ := hM D m
    rw [hD] at e
    cases e
  refine lc_it wk (fun i H => ∃ acc ds, Kp M H1 H ∧ I H ∧ H D = some (.lst acc) ∧ DpAll K H acc ds ∧ (∀ d ∈ ds, Gd d) ∧ ds.length ≤ i) ⟨[], [], Kp.new hM hD, h0, upd_same, .nil, (by intro d hd; cases hd), Nat.le_refl _⟩ (fun i H _ z => ?_) ?_ ?_
  · obtain ⟨acc, ds, s, iH, _⟩ := z
    exact hG H s iH
  · rintro i x H H' hi ⟨acc, ds, s, iH, hacc, ha, hg, hl⟩ y
    have fl : flatDs ds = true := flatDs_of _ fun d hd => hfl d (hg d hd)
    refine hs i x H H' hi s iH y _ _ (fun v H4 d e s4 i4 hv => ?_) (fun H3 s3 i3 => ?_)
    · have hD4 := s4.st _ _ nM hacc
      refine ⟨acc, hD4, ?_, acc ++ [v], ds ++ [d], (s.trans s4).mut hD, hI _ _ (s.trans s4) i4, upd_same, ?_, ?_, by rw [List.length_append]; exact Nat.succ_le_succ hl⟩
      · rw [DpAll.len ha]
        exact Nat.lt_of_le_of_lt hl (Nat.lt_of_lt_of_le (show i < 100000 by omega) (by decide))
      · exact DpAll.snoc (dp_keep (fun _ _ q => sqt_put hD4 q) _ _ (hfl d e) hv) (dps_keep (fun _ _ q => sqt_put hD4 q) _ _ fl (dps_keep (fun _ _ q => s4.tup q) _ _ fl ha))
      · intro d' hd'
        rcases List.mem_append.mp hd' with q | q
        · exact hg d' q
        · cases List.mem_singleton.mp q
          exact e
    · exact ⟨acc, ds, s.trans s3, i3, s3.st _ _ nM hacc, dps_keep (fun _ _ q => s3.tup q) _ _ fl ha, hg, by omega⟩
  · rintro H ⟨acc, ds, s, iH, hacc, ha, hg, hl⟩
    exact hd H acc ds s iH hacc ha hg hl
/-! ### data that repr takes -/
structure Sm (D W : Nat) (d : PyData) : Prop where
  ok : okD d = true
  dp : d.depth ≤ D
  wt : d.weight ≤ W
theorem Sm.mono {D W D' W' : Nat} {d : PyData} (x : Sm D W d) (h1 : D ≤ D') (h2 : W ≤ W') : Sm D' W' d := ⟨x.ok, Nat.le_trans x.dp h1, Nat.le_trans x.wt h2⟩
theorem sm_int {i : Int} (h : i.natAbs < 10 ^ 12) : Sm 0 64 (.int i) := ⟨by simp only [okD]; exact decide_eq_true h, by simp [PyData.depth], wt_int h⟩
theorem sm_all {D W : Nat} : ∀ {ds : List PyData}, (∀ d ∈ ds, Sm D W d) → okDs ds = true ∧ PyData.depthAll ds ≤ D ∧ PyData.weightAll ds ≤ ds.length * (W + 2)
  | [], _ => ⟨rfl, by simp [PyData.depthAll], by simp [PyData.weightAll]⟩
  | d :: ds, h => by
    have a := h d List.mem_cons_self
    obtain ⟨b1, b2, b3⟩ := sm_all (ds := ds) fun x hx => h x (List.mem_cons_of_mem _ hx)
    refine ⟨by simp [okDs, a.ok, b1], ?_, ?_⟩
    · have := a.dp
      simp only [PyData.depthAll]
      omega
    · have := a.wt
      simp only [PyData.weightAll, List.length_cons, Nat.add_mul]
      omega
theorem Sm.tuple {D W m : Nat} {ds : List PyData} (h : ∀ d ∈ ds, Sm D W d) (hm : ds.length ≤ m) : Sm (D + 1) (m * (W + 2)) (.tuple ds) := by
  obtain ⟨a, b, c⟩ := sm_all h
  refine ⟨by simpa [okD] using a, ?_, ?_⟩
  · simp only [PyData.depth]
    omega
  · simp only [PyData.weight]
    exact Nat.le_trans c (Nat.mul_le_mul_right _ hm)
theorem Sm.rep {K : PySem.W.Frag} {H : Hp} {x : V} {D W : Nat} {d : PyData} {Q : VK} (s : Sm D W d) (h1 : D ≤ 60) (h2 : W ≤ 2 ^ 20) (hd : Rp K H x d) (q : Q (.str d.shown) H) : rRepr K [x] H Q :=
  ⟨x, d, rfl, hd, s.ok, Nat.le_trans s.dp h1, Nat.le_trans s.wt h2, q⟩
theorem sm_kv {D W : Nat} : ∀ {es : List (Int × PyData)}, (∀ e ∈ es, e.1.natAbs < 10 ^ 12 ∧ Sm D W e.2) → okDk (es.map fun e => (PyData.int e.1, e.2)) = true ∧ PyData.depthKv (es.map fun e => (PyData.int e.1, e.2)) ≤ D ∧ PyData.weightKv (es.map fun e => (PyData.int e.1, e.2)) ≤ es.length * (W + 70)
  | [], _ => ⟨rfl, by simp [PyData.depthKv], by simp [PyData.weightKv]⟩
  | e :: es, h => by
    obtain ⟨a1, a⟩ := h e List.mem_cons_self
    obtain ⟨b1, b2, b3⟩ := sm_kv (es := es) fun x hx => h x (List.mem_cons_of_mem _ hx)
    have i := sm_int a1
    refine ⟨by simp [okDk, a.ok, b1, i.ok], ?_, ?_⟩
    · have := a.dp
      have := i.dp
      simp only [List.map_cons, PyData.depthKv]
      omega
    · have := a.wt
      have := i.wt
      simp only [List.map_cons, PyData.weightKv, List.length_cons, Nat.add_mul] at this ⊢
      omega
/-- what repr is asked of -/
def Rok (K : PySem.W.Frag) (H : Hp) (x : V) (d : PyData) : Prop := Rp K H x d ∧ okD d = true ∧ d.depth ≤ 60 ∧ d.weight ≤ 2 ^ 20
theorem Sm.rok {K : PySem.W.Frag} {H : Hp} {x : V} {D W : Nat} {d : PyData} (s : Sm D W d) (h1 : D ≤ 60) (h2 : W ≤ 2 ^ 20) (hd : Rp K H x d) : Rok K H x d :=
  ⟨hd, s.ok, Nat.le_trans s.dp h1, Nat.le_trans s.wt h2⟩
/-- the whole dict of things -/
theorem ThAt.rok {K : PySem.W.Frag} {H : Hp} {d : Addr} {es : List (Int × PyData)} {kvs : List (Key × V)} (x : ThAt K H d es kvs) {n : Nat} (hk : es.map (·.1) = births n) (hn : n ≤ 100) : Rok K H (.ref d) (PyData.dict (es.map fun e => (PyData.int e.1, e.2))) := by
  obtain ⟨a, b, c⟩ := sm_kv (D := 8) (W := 4000) (es := es) fun e he => by
    have m : e.1 ∈ births n := by rw [← hk]; exact List.mem_map.mpr ⟨e, he, rfl⟩
    have := births_mem.mp m
    exact ⟨by omega, ⟨(x.th e he).ok, (x.th e he).dp, (x.th e he).wt⟩⟩
  have hl : es.length = n := by
    have e := congrArg List.length hk
    rw [List.length_map, births_len] at e
    exact e
  refine ⟨.inr ⟨d, kvs, es, rfl, x.at_, x.ks, x.vs, x.fl, rfl⟩, by simpa [okD] using a, ?_, ?_⟩
  · simp only [PyData.depth]
    omega
  · simp only [PyData.weight]
    refine Nat.le_trans c ?_
    rw [hl]
    exact Nat.le_trans (Nat.mul_le_mul_right _ hn) (by decide)
end Cm

/-! defs that may ask repr, called by name where nothing is under repr -/
namespace Cm
open PySem L2 PySem.Spec PyProof.Rows
structure ClG (P : Program) (w : World) (K : PySem.W.Frag) (mg : Str → Option Value) (base : Heap) (k : Nat) (x : Str) (sp : Sp) : Prop where
  ex : ∃ (f : Addr) (fd : FuncData) (ps : List Str), (∀ vs H Q E, sp vs H Q E → vs.length = ps.length) ∧ LawAt P w K mg base k f fd ps sp ∧ mg x = some (.ref f) ∧ PySem.W.keepIn K (.ref f) = true ∧ Binds K fd ps []
section
variable {P : Program} {w : World} {K : PySem.W.Frag} {mg : Str → Option Value} {base : Heap}
theorem clG_of {x : Str} {st : Stmt} {N ps : List Str} {k : Nat} {sp : Sp} (T : At K mg x st ps) (S : FnScope N ps (defScope st))
    (len : ∀ vs H Q E, sp vs H Q E → vs.length = ps.length)
    (hb : ∀ (f : Addr) (cdv : Value) (A : Around) (outer : List Env) (s : Shared) (H : Hp) (vs : List V) (Q : VK) (E : XK), (A.deeper (envOfC x (defScope st) s.heap.objs.size f cdv)).guards = some [] →
      Room k (A.deeper (envOfC x (defScope st) s.heap.objs.size f cdv)) → sp vs H Q E →
      ∃ t, PSs (cxOf CX0 P w K mg base N x (defScope st) f cdv A outer s H E).nox (defBody st) t ∧ t { nx := fun _ H' => Q .non H', rt := Q } (start N vs) H) :
    ClG P w K mg base (k + 1) x sp := by
  obtain ⟨f, fd, F, hm, b⟩ := T.ex
  exact ⟨f, fd, ps, len, lawAt_of F S len fun cdv A outer s H vs Q E hg => hb f cdv A outer s H vs Q E hg, hm, F.kp, b⟩
end
section
variable {X : Cx} {j k : Nat} {x : Str} {sp : Sp} {e : Expr} {es : List Expr} {t : TA} {p pos : Pos}
theorem pe_cG (c : ClG X.prog X.w X.K X.mg X.base k x sp) (hgd : X.A.guards = some []) (hr : Room j X.A) (hk : k ≤ j) (hg : Gl X x) (ha : PA X (e :: es) t)
    (hdb : (x == ("__debug__" : Str)) = false := by decide) (he : starEach (e :: es) X.env = (false, eval e X.env) :: starEach es X.env := by rfl)
    (hpl : (backTo pos (starEach es X.env)).any (·.1) = false := by rfl) : PE X (.Call (.Name x p) (e :: es) [] pos) (tCall sp [] E0 t) := by
  obtain ⟨f, fd, ps, len, F, hm, kp, b⟩ := c.ex
  refine ⟨fun pins s σ H Q I h => ?_⟩
  refine wpAny_Call_Name_kw (ld_glob I hg hm ?_ hdb)
  refine PySem.W.callWith_K (h₀ := X.base) I.ok.mod.kin kp (thn (ha.run pos pins s σ H _ I h) fun us s1 ⟨vs, H1, I1, r, q⟩ => ⟨I1.kIn, ?_⟩) he hpl
  have q' : sp vs H1 Q E0 := by
    have q0 : sp (vs ++ []) H1 Q E0 := q
    rwa [List.append_nil] at q0
  have hl : us.length = ps.length := by rw [← r.length]; exact len _ _ _ _ q'
  have hb := b s1 us I1.kIn (by rw [List.append_nil]; exact hl)
  rw [List.append_nil] at hb
  refine wpAny_call (codeAny_mono (F X.A X.stack s1 H1 ⟨us, []⟩ us vs Q E0 hgd (hr.mono hk) I1.env0 hb r q') fun r s' hq => ?_)
  cases r with
  | error e => exact pass0 pins σ H1 s1 e s' I1 hq
  | ok fl =>
    cases fl with
    | ret u => exact I1.after hq
    | next => exact False.elim hq
    | brk => exact False.elim hq
    | cont => exact False.elim hq
end
/-! ### a walk over a list or a tuple -/
def iSeq (K : PySem.W.Frag) (tl : TE) : TI := fun σ H R => tl σ H fun x H1 => ∃ a, x = .ref a ∧ ((∃ xs, SqL K H1 a xs) ∧ R (Itl K a) H1 ∨ (∃ xs, SqT K H1 a xs) ∧ R (Itt K a) H1)
theorem pi_seq {X : Cx} {tg l : Expr} {tl : TE} (hl : PE X l tl) : PI X tg l (iSeq X.K tl) := by
  refine ⟨fun pins s σ H R I h => ?_⟩
  refine thn (hl.run pins s σ H _ I h) fun v s1 ⟨x, H1, I1, r1, q1⟩ => ?_
  obtain ⟨a, rfl, q1⟩ := q1
  cases r1
  have fp : ∀ b ∈ [s1.heap.objs.size], b = s1.heap.objs.size := fun b hb => by simpa using hb
  rcases q1 with ⟨⟨xs, hq⟩, q⟩ | ⟨⟨xs, hq⟩, q⟩
  · obtain ⟨its, rv, p, hz⟩ := I1.list hq
    refine wpAny_pyIter_list p.isList ?_
    refine ⟨_, _, _, _, H1, rfl, I1.kept (t' := s1.toks) fun b o e => Heap.get?_push_of_some _ e, turn_list a _, ⟨_, Heap.get?_push_size _ rfl, rfl, rfl⟩, fun b hb => ?_, q⟩
    cases fp b hb
    exact I1.fpOk (Nat.le_refl _) (I1.hok.fresh (Nat.le_refl _))
  · obtain ⟨its, rv, p, hz⟩ := I1.tuple hq
    refine wpAny_pyIter_tuple (show s1.heap.IsTuple a its.toArray from p) ?_
    refine ⟨_, _, _, _, H1, rfl, I1.kept (t' := s1.toks) fun b o e => Heap.get?_push_of_some _ e, turn_tuple a _, ⟨_, Heap.get?_push_size _ rfl, rfl, rfl⟩, fun b hb => ?_, q⟩
    cases fp b hb
    exact I1.fpOk (Nat.le_refl _) (I1.hok.fresh (Nat.le_refl _))
theorem ne_same (x : V) : (!decide (x = x)) = false := by simp
theorem tyx_tup {K : PySem.W.Frag} {H : Hp} {a : Addr} {xs : List V} (h : SqT K H a xs) : TyX K H (.ref a) (.type "tuple") := by
  rcases h with (h | ⟨o, h⟩) | ⟨o, its, n, e, c, _⟩
  · exact .base (.tup h)
  · exact .fTuple h
  · exact .kTuple e c
theorem kit_tup {K : PySem.W.Frag} : PySem.W.kitOne K (.type "tuple") (.type "tuple") = some true := by rfl
end Cm

namespace K10
open PySem L2 Cm
def top (i : Nat) : Stmt := PySem.Challenge.pw_goonagain_k10_whole_ways_joined_and_walk.main.body.getD i (.Pass ⟨0, 0, 0, 0⟩)
structure Txt (mg : Str → Option Value) : Prop where
  abs : mg "abs" = none
  enumerate : mg "enumerate" = none
  int : mg "int" = none
  len : mg "len" = none
  max : mg "max" = none
  min : mg "min" = none
  range : mg "range" = none
  repr : mg "repr" = none
  sorted : mg "sorted" = none
  tuple : mg "tuple" = none
  zip : mg "zip" = none
section
variable {P : Program} {w : World} {K : PySem.W.Frag} {mg : Str → Option Value} {base : Heap}
-- mix
abbrev s_l_mix : Stmt := top 10
abbrev N_l_mix : List Str := ["_law_number", "_law_turn", "_law_once", "_law_twice"]
theorem sc_l_mix : FnScope N_l_mix ["_law_number", "_law_turn"] (defScope s_l_mix) := ⟨rfl, rfl, rfl, by decide +kernel, rfl, by decide +kernel, by decide +kernel⟩
theorem ok_mix (T : Txt mg) (D : At K mg "_law_mix" s_l_mix ["_law_number", "_law_turn"]) : Cl P w K mg base 1 "_law_mix" spMix := by
  refine cl_of D sc_l_mix (fun vs H Q E h => ?_) fun f cdv A outer s H vs Q E hr h => ?_
  · obtain ⟨a, b, rfl, _⟩ := h
    rfl
  · obtain ⟨a, b, rfl, k⟩ := h
    refine ⟨_, (pss_cons (ps_set (i := 2) sc_l_mix.nd rfl (Or.inl rfl) (pe_op op_mod (pe_callTy call_int1 (by rfl) T.int (by decide +kernel) (pa_cons (pe_op op_add (pe_op op_add (pe_op op_mul (pv 0) pe_int) (pe_op op_mul (pv 1) pe_int)) pe_int) pa_nil)) pe_int))
      (pss_cons (ps_set (i := 3) sc_l_mix.nd rfl (Or.inl rfl) (pe_op op_mod (pe_callTy call_int1 (by rfl) T.int (by decide +kernel) (pa_cons (pe_op op_add (pe_op op_add (pe_op op_mul (pv 2) (pv 2)) (pe_op op_mul (pe_op op_fdiv (pv 2) pe_int) pe_int)) (pe_op op_mul (pv 1) pe_int)) pa_nil)) pe_int))
      (pss_one (ps_ret (pe_op op_fdiv (pe_op op_mod (pe_callTy call_int1 (by rfl) T.int (by decide +kernel) (pa_cons (pe_op op_add (pe_op op_fdiv (pe_op op_mul (pv 3) (pv 3)) pe_int) (pv 2)) pa_nil)) pe_int) pe_int))))), ?_⟩
    refine ⟨_, rfl, _, _, rfl, rfl, .inr (by decide), ?_⟩
    refine ⟨_, rfl, _, _, rfl, rfl, .inr (by decide), ?_⟩
    refine ⟨_, _, rfl, rfl, _, _, rfl, rfl, .inl ⟨_, rfl, _, _, rfl, rfl, (by show (0 : Int) < _; decide), ?_⟩⟩
    generalize hx : (a * 48271 + b * 16807 + 11) % 2147483647 = x
    have x0 : 0 ≤ x := by omega
    have x1 : x < 2147483647 := by omega
    clear hx
    refine ⟨_, rfl, _, rfl, _, _, rfl, rfl, .inl ⟨by omega, by omega⟩, ?_⟩
    refine ⟨_, rfl, _, _, rfl, rfl, ⟨by decide, by decide⟩, _, _, rfl, rfl, .inr (by decide), ?_⟩
    refine ⟨_, _, rfl, rfl, _, rfl, _, _, rfl, rfl, .inr (by decide), _, _, rfl, rfl, .inl ⟨_, rfl, _, _, rfl, rfl, (by show (0 : Int) < _; decide), ?_⟩⟩
    generalize hy : (x * x + x / 127 * 40692 + b * 69621) % 2147483399 = y
    have y0 : 0 ≤ y := by omega
    have y1 : y < 2147483399 := by omega
    clear hy
    refine ⟨_, rfl, _, rfl, _, _, rfl, rfl, .inl ⟨by omega, by omega⟩, _, _, rfl, rfl, ⟨by decide, by decide⟩, ?_⟩
    refine ⟨_, rfl, _, _, rfl, rfl, .inl ⟨_, rfl, _, _, rfl, rfl, (by show (0 : Int) < _; decide), _, _, rfl, rfl, ⟨by decide, by decide⟩, ?_⟩⟩
    exact k _
-- hand
abbrev s_l_hand : Stmt := top 11
abbrev N_l_hand : List Str := ["_law_script", "_law_total", "_law_k", "_law_cell"]
theorem sc_l_hand : FnScope N_l_hand ["_law_script"] (defScope s_l_hand) := ⟨rfl, rfl, rfl, by decide +kernel, rfl, by decide +kernel, by decide +kernel⟩
theorem ok_hand (T : Txt mg) (D : At K mg "_law_hand" s_l_hand ["_law_script"]) : Cl P w K mg base 1 "_law_hand" (spHand K) := by
  refine cl_of D sc_l_hand (fun vs H Q E h => ?_) fun f cdv A outer s H vs Q E hr h => ?_
  · obtain ⟨a, ns, rfl, _⟩ := h
    rfl
  · obtain ⟨a, ns, rfl, hS, hlen, k⟩ := h
    refine ⟨_, (pss_cons (ps_set (i := 1) sc_l_hand.nd rfl (Or.inl rfl) pe_int)
      (pss_cons (ps_for PassesOwn.never rfl (pi_enum (by rfl) T.enumerate (pa_cons (pv 0) pa_nil)) (pg_tup (by rfl) (pgs_cons (pg_name (i := 2) sc_l_hand.nd rfl (Or.inl rfl)) (pgs_cons (pg_name (i := 3) sc_l_hand.nd rfl (Or.inl rfl)) pgs_nil)))
        (pss_one (ps_set (i := 1) sc_l_hand.nd rfl (Or.inl rfl) (pe_op op_mod (pe_callTy call_int1 (by rfl) T.int (by decide +kernel) (pa_cons (pe_op op_add (pe_op op_mul (pv 1) pe_int) (pe_op op_mul (pe_callTy call_int1 (by rfl) T.int (by decide +kernel) (pa_cons (pv 3) pa_nil)) (pe_op op_add (pv 2) pe_int))) pa_nil)) pe_int))))
      (pss_one (ps_ret (pe_lst (pa_cons (pe_lc (own := [("_law_cell", 3)]) rfl sc_l_hand.nd (pi_list (pv 0)) (blkOk_by (N := N_l_hand) (sc := defScope s_l_hand) (by decide +kernel))
      (fun _ _ _ _ _ => (pg_name (i := 3) sc_l_hand.nd rfl (Or.inl rfl)))
      (fun _ _ _ _ _ => pts_nil)
      (fun _ _ _ _ _ => (pe_callB call_abs (by rfl) T.abs (by decide +kernel) (pa_cons (pe_callTy call_int1 (by rfl) T.int (by decide +kernel) (pa_cons (pv 3) pa_nil)) pa_nil)))) (pa_cons pe_int (pa_cons pe_int (pa_cons (pv 1) pa_nil))))))))), ?_⟩
    refine ⟨_, rfl, a, _, rfl, hS, ?_⟩
    refine for_it (walk_enum (xs := ns.map V.int)) (fun i σ H' => ∃ (t : Int) (v2 v3 : Option V), σ = [some (.ref a), some (.int t), v2, v3] ∧ Same H H') ⟨0, none, none, rfl, Same.refl H⟩ (fun i σ H' _ z => ?_) ?_ ?_
    · obtain ⟨t, v2, v3, rfl, s1⟩ := z
      exact s1.seq hS
    · rintro i x σ H1 H2 hi ⟨t, v2, v3, rfl, s1⟩ ⟨T1, x1, x2, rfl, hT, rfl, e1, e2⟩
      cases e1
      obtain ⟨n, en, rfl⟩ := map_at e2
      refine ⟨T1, _, rfl, .inl (.inl upd_same), rfl, _, _, rfl, _, _, rfl, rfl, ?_⟩
      refine ⟨_, rfl, _, _, rfl, rfl, .inr (by decide), _, rfl, .inl ⟨_, rfl, ?_⟩⟩
      refine ⟨_, rfl, _, _, rfl, rfl, _, _, rfl, rfl, .inr ⟨?_, ?_⟩, ?_⟩
      · rw [List.length_map] at hi
        omega
      · rw [List.length_map] at hi
        omega
      refine ⟨_, _, rfl, rfl, .inl ⟨_, rfl, _, _, rfl, rfl, (by show (0 : Int) < _; decide), ?_⟩⟩
      exact ⟨_, _, _, rfl, s1.trans (same_new hT)⟩
    · rintro σ H1 ⟨t, v2, v3, rfl, s1⟩
      refine ⟨_, rfl, a, rfl, ⟨_, s1.seq hS⟩, fun D hD => ?_⟩
      refine lc_it (walk_list (xs := ns.map V.int)) (fun i H' => ∃ acc : List Int, Same H1 H' ∧ H' D = some (.lst (acc.map V.int)) ∧ acc.length = i) ⟨[], same_new hD, upd_same, rfl⟩ (fun i H' _ z => ?_) ?_ ?_
      · obtain ⟨acc, s2, _⟩ := z
        exact (s1.trans s2).seq hS
      · rintro i x H2 H3 hi ⟨acc, s2, hacc, hl⟩ ⟨rfl, e2⟩
        obtain ⟨n, en, rfl⟩ := map_at e2
        rw [List.length_map] at hi
        refine ⟨rfl, ?_⟩
        refine ⟨_, rfl, .inl ⟨_, rfl, _, rfl, _, hacc, ?_, ?_⟩⟩
        · rw [List.length_map]
          exact Nat.lt_of_lt_of_le (show acc.length < 63 by omega) (by decide)
        · refine ⟨acc ++ [if n < 0 then -n else n], fun b o e => ?_, ?_, ?_⟩
          · have hb : b ≠ D := ne_of_none e hD
            rw [upd_ne hb]
            exact s2 b o e
          · rw [upd_same, List.map_append]
            rfl
          · rw [List.length_append, hl]
            rfl
      · rintro H2 ⟨acc, s2, hacc, hl⟩
        refine ⟨_, rfl, by show 4 ≤ sizeLine; decide, fun p hp => ?_⟩
        rw [List.length_map] at hl
        have npD : D ≠ p := ne_of_none hacc hp
        refine k p D _ ((s1.trans s2).trans (same_new hp)) ((s1.trans s2).free hp) (s1.free hD) ⟨acc, _, _, _, upd_same, ?_, npD, Int.le_refl 0, by omega⟩
        rw [upd_ne npD]
        exact hacc
end
end K10

namespace K10
open PySem L2 Cm
section
variable {P : Program} {w : World} {K : PySem.W.Frag} {mg : Str → Option Value} {base : Heap}
abbrev s_l_draw : Stmt := top 12
abbrev N_l_draw : List Str := ["_law_hand_here", "_law_many", "_law_cell", "_law_rest"]
theorem sc_l_draw : FnScope N_l_draw ["_law_hand_here", "_law_many"] (defScope s_l_draw) := ⟨rfl, rfl, rfl, by decide +kernel, rfl, by decide +kernel, by decide +kernel⟩
theorem ok_draw (T : Txt mg) (c_l_mix : Cl P w K mg base 1 "_law_mix" spMix) (D : At K mg "_law_draw" s_l_draw ["_law_hand_here", "_law_many"]) : Cl P w K mg base 2 "_law_draw" spDraw := by
  refine cl_of D sc_l_draw (fun vs H Q E h => ?_) fun f cdv A outer s H vs Q E hr h => ?_
  · obtain ⟨h, c, m, rfl, _⟩ := h
    rfl
  · obtain ⟨h, c, m, rfl, ⟨cells, i, b, t, e1, e2, nch, hi, hlen⟩, hm0, hm1, k⟩ := h
    refine ⟨_, (pss_mid (ps_if (PW.pt (pw_and (pt_cmpR op_eq (pe_ix ix_list (pv 0) pe_int (fun _ _ => rfl)) pe_int (nomark _)) (pw_and1 (pt_cmpR op_lt (pe_ix ix_list (pv 0) pe_int (fun _ _ => rfl)) (pe_callB call_len_seq (by rfl) T.len (by decide +kernel) (pa_cons (pe_ix ix_list (pv 0) pe_int (fun _ _ => rfl)) pa_nil)) (nomark _)))))
        (pss_cons (ps_set (i := 2) sc_l_draw.nd rfl (Or.inl rfl) (pe_ix ix_list (pe_ix ix_list (pv 0) pe_int (fun _ _ => rfl)) (pe_ix ix_list (pv 0) pe_int (fun _ _ => rfl)) (fun _ _ => rfl)))
        (pss_cons (ps_asg (pe_op op_add (pe_ix ix_list (pv 0) pe_int (fun _ _ => rfl)) pe_int) (pg_sub (pv 0) pe_int set_list))
        (pss_cons (ps_if (pt_cmpR op_lt (pv 2) (pe_op op_pow pe_int pe_int) (nomark _))
          (pss_one (ps_ret (pe_op op_mod (pe_callTy call_int1 (by rfl) T.int (by decide +kernel) (pa_cons (pe_c c_l_mix hr (by decide) (by rfl) (pa_cons (pe_op op_mod (pe_callTy call_int1 (by rfl) T.int (by decide +kernel) (pa_cons (pv 2) pa_nil)) pe_int) (pa_cons (pe_ix ix_list (pv 0) pe_int (fun _ _ => rfl)) pa_nil))) pa_nil)) (pv 1))))
          pss_nil)
        (pss_one (ps_asg (pv 2) (pg_sub (pv 0) pe_int set_list))))))
        pss_nil)
      (pss_cons (ps_if (pt_cmpR op_gt (pe_ix ix_list (pv 0) pe_int (fun _ _ => rfl)) pe_int (nomark _))
        (pss_cons (ps_set (i := 3) sc_l_draw.nd rfl (Or.inl rfl) (pe_ix ix_list (pv 0) pe_int (fun _ _ => rfl)))
        (pss_cons (ps_asg (pe_op op_fdivW (pv 3) (pv 1)) (pg_sub (pv 0) pe_int set_list))
        (pss_one (ps_ret (pe_op op_mod (pe_callTy call_int1 (by rfl) T.int (by decide +kernel) (pa_cons (pv 3) pa_nil)) (pv 1))))))
        pss_nil)
      (pss_cons (ps_asg (pe_op op_mod (pe_callTy call_int1 (by rfl) T.int (by decide +kernel) (pa_cons (pe_op op_add (pe_ix ix_list (pv 0) pe_int (fun _ _ => rfl)) pe_int) pa_nil)) pe_int) (pg_sub (pv 0) pe_int set_list))
      (pss_one (ps_ret (pe_op op_mod (pe_callTy call_int1 (by rfl) T.int (by decide +kernel) (pa_cons (pe_c c_l_mix hr (by decide) (by rfl) (pa_cons (pe_ix ix_list (pv 0) pe_int (fun _ _ => rfl)) (pa_cons (pe_ix ix_list (pv 0) pe_int (fun _ _ => rfl)) pa_nil))) pa_nil)) (pv 1))))))), ?_⟩
    have big : CDivW b m := wide_div (b := 100) hm0 (by omega) (by decide) (by decide)
    have kh0 : ∀ {ys : List V}, Kh h H (upd H h (.lst ys)) := Kp.put (fun a ha => by rw [ha]; exact ⟨_, e1⟩) rfl
    refine ⟨fun σ' H' => ∃ (i b t : Int) (v2 v3 : Option V), σ' = [some (.ref h), some (.int m), v2, v3] ∧ Kh h H H' ∧ H' h = some (.lst [.ref c, .int i, .int b, .int t]) ∧ H' c = some (.lst (cells.map V.int)) ∧ 0 ≤ i, ?_, ?_⟩
    · refine ⟨_, rfl, _, _, _, _, rfl, rfl, .inl (.inl e1), rfl, rfl, _, rfl, ?_⟩
      refine ite2 (fun _ => ?_) (fun _ => ?_)
      · refine ⟨_, rfl, _, _, _, _, rfl, rfl, .inl (.inl e1), rfl, _, rfl, _, _, _, _, rfl, rfl, .inl (.inl e1), rfl, c, _, rfl, .inl (.inl (.inl e2)), _, _, rfl, rfl, _, rfl, ?_⟩
        refine ite2 (fun hlt => ?_) (fun _ => ?_)
        · have hlt' : i < (cells.length : Int) := by
            have := of_decide_eq_true hlt
            rw [List.length_map] at this
            exact this
          obtain ⟨j, rfl⟩ : ∃ j : Nat, i = (j : Int) := ⟨i.toNat, by omega⟩
          have hj : j < cells.length := by omega
          have hat : atI (cells.map V.int) (j : Int) = some (.int cells[j]) := atI_nat (by rw [List.getElem?_map, List.getElem?_eq_getElem hj]; rfl)
          refine ⟨_, rfl, _, _, _, _, rfl, rfl, .inl (.inl e1), rfl, _, rfl, _, _, _, _, rfl, rfl, .inl (.inl e1), rfl, c, _, _, _, rfl, rfl, .inl (.inl e2), hat, ?_⟩
          refine ⟨_, rfl, _, _, _, _, rfl, rfl, .inl (.inl e1), rfl, _, _, rfl, rfl, _, rfl, h, _, _, 1, rfl, rfl, e1, rfl, ?_⟩
          have e2' : upd H h (.lst [.ref c, .int ((j : Int) + 1), .int b, .int t]) c = some (.lst (cells.map V.int)) := by rw [upd_ne nch]; exact e2
          refine ⟨_, rfl, _, _, rfl, rfl, ⟨by decide, by decide, by decide⟩, _, _, rfl, rfl, _, rfl, ?_⟩
          refine ite2 (fun _ => ?_) (fun _ => ?_)
          · refine ⟨_, rfl, .inl ⟨_, rfl, _, _, rfl, rfl, (by show (0 : Int) < _; decide), _, rfl, _, _, _, _, rfl, rfl, .inl (.inl upd_same), rfl, ?_⟩⟩
            refine ⟨_, _, rfl, fun n => .inl ⟨_, rfl, _, rfl, _, _, rfl, rfl, hm0, ?_⟩⟩
            exact k _ _ (Int.emod_nonneg _ (by omega)) (Int.emod_lt_of_pos _ hm0) kh0 ⟨cells, _, _, _, upd_same, e2', nch, by omega, hlen⟩
          · refine ⟨_, rfl, _, rfl, h, _, _, 2, rfl, rfl, upd_same, rfl, ?_⟩
            rw [upd_upd]
            exact ⟨_, _, _, _, _, rfl, kh0, upd_same, by rw [upd_ne nch]; exact e2, by omega⟩
        · exact ⟨i, b, t, _, _, rfl, Kp.refl (fun a ha => by rw [ha]; exact ⟨_, e1⟩), e1, e2, hi⟩
      · exact ⟨i, b, t, _, _, rfl, Kp.refl (fun a ha => by rw [ha]; exact ⟨_, e1⟩), e1, e2, hi⟩
    · rintro σ' H' ⟨i, b, t, v2, v3, rfl, kh, e1, e2, hi⟩
      have kh1 : ∀ {ys : List V}, Kh h H (upd H' h (.lst ys)) := kh.trans (Kp.put (fun a ha => by rw [ha]; exact ⟨_, e1⟩) rfl)
      refine ⟨_, rfl, _, _, _, _, rfl, rfl, .inl (.inl e1), rfl, _, _, rfl, rfl, _, rfl, ?_⟩
      refine ite2 (fun _ => ?_) (fun _ => ?_)
      · refine ⟨_, rfl, _, _, _, _, rfl, rfl, .inl (.inl e1), rfl, _, rfl, _, rfl, _, _, rfl, rfl, big, _, rfl, h, _, _, 2, rfl, rfl, e1, rfl, ?_⟩
        refine ⟨_, rfl, .inl ⟨_, rfl, _, rfl, _, _, rfl, rfl, hm0, ?_⟩⟩
        exact k _ _ (Int.emod_nonneg _ (by omega)) (Int.emod_lt_of_pos _ hm0) kh1 ⟨cells, _, _, _, upd_same, by rw [upd_ne nch]; exact e2, nch, hi, hlen⟩
      · refine ⟨_, rfl, _, _, _, _, rfl, rfl, .inl (.inl e1), rfl, _, _, rfl, rfl, .inl ⟨_, rfl, _, _, rfl, rfl, (by show (0 : Int) < _; decide), _, rfl, h, _, _, 3, rfl, rfl, e1, rfl, ?_⟩⟩
        refine ⟨_, rfl, _, _, _, _, rfl, rfl, .inl (.inl upd_same), rfl, _, rfl, _, _, _, _, rfl, rfl, .inl (.inl upd_same), rfl, ?_⟩
        refine ⟨_, _, rfl, fun n => .inl ⟨_, rfl, _, rfl, _, _, rfl, rfl, hm0, ?_⟩⟩
        exact k _ _ (Int.emod_nonneg _ (by omega)) (Int.emod_lt_of_pos _ hm0) kh1 ⟨cells, _, _, _, upd_same, by rw [upd_ne nch]; exact e2, nch, hi, hlen⟩
end
end K10

namespace K10
open PySem L2 Cm
section
variable {P : Program} {w : World} {K : PySem.W.Frag} {mg : Str → Option Value} {base : Heap}
abbrev s_l_pick : Stmt := top 13
abbrev N_l_pick : List Str := ["_law_hand_here", "_law_things_here"]
theorem sc_l_pick : FnScope N_l_pick ["_law_hand_here", "_law_things_here"] (defScope s_l_pick) := ⟨rfl, rfl, rfl, by decide +kernel, rfl, by decide +kernel, by decide +kernel⟩
theorem ok_pick (T : Txt mg) (c_l_draw : Cl P w K mg base 2 "_law_draw" spDraw) (D : At K mg "_law_pick" s_l_pick ["_law_hand_here", "_law_things_here"]) : Cl P w K mg base 3 "_law_pick" (spPick K) := by
  refine cl_of D sc_l_pick (fun vs H Q E h => ?_) fun f cdv A outer s H vs Q E hr h => ?_
  · obtain ⟨h, c, a, xs, rfl, _⟩ := h
    rfl
  · obtain ⟨h, c, a, xs, rfl, hh, hx, hne, hlen, k⟩ := h
    have hpos : 0 < xs.length := List.length_pos_iff.mpr hne
    refine ⟨_, (pss_one (ps_ret (pe_ix ix_seq (pv 1) (pe_c c_l_draw hr (by decide) (by rfl) (pa_cons (pv 0) (pa_cons (pe_callB call_len_seq (by rfl) T.len (by decide +kernel) (pa_cons (pv 1) pa_nil)) pa_nil))) (fun _ _ => rfl)))), ?_⟩
    refine ⟨_, rfl, _, rfl, _, rfl, a, xs, rfl, ?_, h, c, _, rfl, hh, by omega, Int.lt_of_le_of_lt (show (xs.length : Int) ≤ 1000 by omega) (by decide), fun n H1 h0 h1 kh hh1 => ?_⟩
    · rcases hx with hx | hx
      · exact .inl hx.1
      · exact .inr hx
    · obtain ⟨j, rfl⟩ : ∃ j : Nat, n = (j : Int) := ⟨n.toNat, by omega⟩
      have hj : j < xs.length := by omega
      have hat : atI xs (j : Int) = some xs[j] := atI_nat (List.getElem?_eq_getElem hj)
      rcases hx with ⟨hx, hn⟩ | hx
      · refine .inl ⟨a, xs, _, _, rfl, rfl, ?_, hat, k _ _ (List.getElem_mem hj) kh hh1⟩
        rcases hx with (q | ⟨o, q⟩) | q
        · exact .inl (.inl (kh.st _ _ hn q))
        · exact .inl (.inr ⟨o, kh.st _ _ hn q⟩)
        · exact .inr q
      · exact .inr (.inl ⟨a, xs, _, _, rfl, rfl, kh.tup hx, hat, k _ _ (List.getElem_mem hj) kh hh1⟩)
end
end K10

namespace K10
open PySem L2 Cm
def spThings (K : PySem.W.Frag) : Sp := fun vs H Q _ => ∃ (h c : Addr) (m : Int), vs = [.ref h, .int m] ∧ Hand H h c ∧ 1 ≤ m ∧ m ≤ 14 ∧
  ∀ (d : Addr) (es : List (Int × PyData)) (kvs : List (Key × V)) (H' : Hp), Kh h H H' → Hand H' h c → H d = Option.none → ThAt K H' d es kvs → es.map (·.1) = births m.toNat → Q (.ref d) H'
theorem th_wind {b : Int} (h0 : 0 ≤ b) (h1 : b ≤ 100) : Th b (.tuple [.str "wind", .int (1000 + b), .int (2000 + b)]) :=
  ⟨⟨_, _, rfl⟩, rfl, by
    have e1 : (1000 + b).natAbs < 10 ^ 12 := by omega
    have e2 : (2000 + b).natAbs < 10 ^ 12 := by omega
    have e3 : okD (.str "wind") = true := by decide +kernel
    simp only [okD, okDs] at e3 ⊢
    rw [e3, decide_eq_true e1, decide_eq_true e2]
    rfl, by simp [PyData.depth, PyData.depthAll], by
    have e1 := wt_int (show (1000 + b).natAbs < 10 ^ 12 by omega)
    have e2 := wt_int (show (2000 + b).natAbs < 10 ^ 12 by omega)
    have e3 : PyData.weight (.str "wind") ≤ 100 := by decide +kernel
    simp only [PyData.weight, PyData.weightAll] at e1 e2 e3 ⊢
    omega, fun _ => rfl⟩
theorem th_wait {b n : Int} (h0 : 0 ≤ b) (h1 : b ≤ 100) (n0 : 0 ≤ n) (n1 : n < 9) : Th b (.tuple [.str "wait", .int n, .tuple [.int b]]) :=
  ⟨⟨_, _, rfl⟩, rfl, by
    have e1 : b.natAbs < 10 ^ 12 := by omega
    have e2 : n.natAbs < 10 ^ 12 := by omega
    have e3 : okD (.str "wait") = true := by decide +kernel
    simp only [okD, okDs] at e3 ⊢
    rw [e3, decide_eq_true e1, decide_eq_true e2]
    rfl, by simp [PyData.depth, PyData.depthAll], by
    have e1 := wt_int (show b.natAbs < 10 ^ 12 by omega)
    have e2 := wt_int (show n.natAbs < 10 ^ 12 by omega)
    have e3 : PyData.weight (.str "wait") ≤ 100 := by decide +kernel
    simp only [PyData.weight, PyData.weightAll] at e1 e2 e3 ⊢
    omega, fun h => absurd (show ("wait" : Str) = "wind" from h) (by decide +kernel)⟩
theorem th_mark {b : Int} : Th b (.tuple [.str "mark"]) := ⟨⟨_, _, rfl⟩, rfl, by decide +kernel, by decide +kernel, by decide +kernel, fun h => absurd (show ("mark" : Str) = "wind" from h) (by decide +kernel)⟩
theorem th_pass {b : Int} : Th b (.tuple [.str "pass", .int 77]) := ⟨⟨_, _, rfl⟩, rfl, by decide +kernel, by decide +kernel, by decide +kernel, fun h => absurd (show ("pass" : Str) = "wind" from h) (by decide +kernel)⟩
theorem th_way {b : Int} : Th b (.tuple [.str "way", .tuple [.str "out"], .tuple [.str "give", .int 3]]) := ⟨⟨_, _, rfl⟩, rfl, by decide +kernel, by decide +kernel, by decide +kernel, fun h => absurd (show ("way" : Str) = "wind" from h) (by decide +kernel)⟩
section
variable {P : Program} {w : World} {K : PySem.W.Frag} {mg : Str → Option Value} {base : Heap}
abbrev s_l_things : Stmt := top 14
abbrev N_l_things : List Str := ["_law_hand_here", "_law_many", "_law_things_here", "_law_birth", "_law_pick_here"]
theorem sc_l_things : FnScope N_l_things ["_law_hand_here", "_law_many"] (defScope s_l_things) := ⟨rfl, rfl, rfl, by decide +kernel, rfl, by decide +kernel, by decide +kernel⟩
theorem ok_things (T : Txt mg) (c_l_draw : Cl P w K mg base 2 "_law_draw" spDraw) (c_l_pick : Cl P w K mg base 3 "_law_pick" (spPick K)) (D : At K mg "_law_things" s_l_things ["_law_hand_here", "_law_many"]) :
    Cl P w K mg base 4 "_law_things" (spThings K) := by
  refine cl_of D sc_l_things (fun vs H Q E h => ?_) fun f cdv A outer s H vs Q E hr h => ?_
  · obtain ⟨h, c, m, rfl, _⟩ := h
    rfl
  · obtain ⟨h, c, m, rfl, hh, hm1, hm2, k⟩ := h
    have hu := hu_of hr
    refine ⟨_, (pss_cons (ps_set (i := 2) sc_l_things.nd rfl (Or.inl rfl) pe_dnewK)
      (pss_cons (ps_for PassesOwn.never rfl (pi_range2 (by rfl) T.range (pa_cons pe_int (pa_cons (pe_op op_add pe_int (pv 1)) pa_nil))) (pg_name (i := 3) sc_l_things.nd rfl (Or.inl rfl))
        (pss_cons (ps_set (i := 4) sc_l_things.nd rfl (Or.inl rfl) (pe_c c_l_draw hr (by decide) (by rfl) (pa_cons (pv 0) (pa_cons pe_int pa_nil))))
        (pss_one (ps_if (pt_cmpR op_lt (pv 4) pe_int (nomark _))
          (pss_one (ps_dput hu (pv 2) (pv 3) (pe_tup (pa_cons pe_str (pa_cons (pe_op op_add pe_int (pv 3)) (pa_cons (pe_op op_add pe_int (pv 3)) pa_nil)))) rfl))
          (pss_one (ps_if (pt_cmpR op_lt (pv 4) pe_int (nomark _))
            (pss_one (ps_dput hu (pv 2) (pv 3) (pe_tup (pa_cons pe_str (pa_cons (pe_c c_l_draw hr (by decide) (by rfl) (pa_cons (pv 0) (pa_cons pe_int pa_nil))) (pa_cons (pe_tup (pa_cons (pv 3) pa_nil)) pa_nil)))) rfl))
            (pss_one (ps_if (pt_cmpR op_eq (pv 4) pe_int (nomark _))
              (pss_one (ps_dput hu (pv 2) (pv 3) (pe_tup (pa_cons pe_str pa_nil)) rfl))
              (pss_one (ps_dput hu (pv 2) (pv 3) (pe_c c_l_pick hr (by decide) (by rfl) (pa_cons (pv 0) (pa_cons (pe_lst (pa_cons (pe_tup (pa_cons pe_str (pa_cons pe_int pa_nil))) (pa_cons (pe_tup (pa_cons pe_str (pa_cons (pe_tup (pa_cons pe_str pa_nil)) (pa_cons (pe_tup (pa_cons pe_str (pa_cons pe_int pa_nil))) pa_nil)))) (pa_cons (pe_tup (pa_cons pe_str pa_nil)) pa_nil)))) pa_nil))) rfl))))))))))
      (pss_one (ps_ret (pv 2))))), ?_⟩
    intro d hd
    have hh0 : Hand (upd H d (.dK [])) h c := hh.same (same_new hd)
    refine ⟨_, rfl, _, _, rfl, rfl, 1, _, rfl, ⟨by omega, by omega, by omega, by omega⟩, ?_⟩
    have en : (1 + m - 1).toNat = m.toNat := by omega
    rw [en]
    refine for_it (walk_range (lo := 1) (n := m.toNat)) (fun i σ H' => ∃ (v3 v4 : Option V) (es : List (Int × PyData)) (kvs : List (Key × V)), σ = [some (.ref h), some (.int m), some (.ref d), v3, v4] ∧ Kh h H H' ∧ Hand H' h c ∧ ThAt K H' d es kvs ∧ es.map (·.1) = births i)
      ⟨none, none, [], [], rfl, hh.kh (same_new hd), hh0, ⟨upd_same, rfl, .nil, fun e he => by cases he⟩, rfl⟩ (fun _ _ _ _ _ => trivial) ?_ ?_
    · rintro i x σ H0 H1 hi ⟨v3, v4, es, kvs, rfl, kh, hh1, ht, hk⟩ ⟨rfl, rfl⟩
      have hi14 : i < 14 := by omega
      have nokey : ∀ {p : Addr}, H1 p = Option.none → p ≠ d := fun hp => (ne_of_none ht.at_ hp).symm
      refine ⟨_, rfl, h, c, _, rfl, hh1, by decide, by decide, fun n H2 n0 n1 kh2 hh2 => ?_⟩
      have kd : ∀ {H' : Hp}, Hand H' h c → (∃ kvs, H' d = some (.dK kvs)) → ¬ d = h := fun x ⟨_, e⟩ => x.ne fun xs z => by rw [e] at z; cases z
      have ndh : ¬ d = h := kd hh1 ⟨_, ht.at_⟩
      have ht2 := ht.kp kh2 ndh
      have kh12 := kh.trans kh2
      refine ⟨_, rfl, _, _, rfl, rfl, _, rfl, ?_⟩
      refine ite2 (fun _ => ?_) (fun _ => ?_)
      · refine ⟨_, rfl, _, _, rfl, rfl, _, rfl, _, _, rfl, rfl, by show 3 ≤ sizeLine; decide, fun p hp => ?_⟩
        obtain ⟨H4, es', kvs', g1, g2, g3, g4, g5⟩ := things_put (t := .tuple [.str "wind", .int (1000 + (1 + i)), .int (2000 + (1 + i))]) (v := .ref p) (kh12.trans (hh2.kh (same_new hp))) (hh2.same (same_new hp)) (ht2.same (same_new hp)) hd hk (by omega)
          (.tup (.inl (.inl upd_same)) (.cons (.str _) (.cons (.int _) (.cons (.int _) .nil)))) (th_wind (by omega) (by omega))
        exact ⟨_, rfl, _, rfl, d, H4, rfl, g1, _, _, es', kvs', rfl, g2, g3, g4, g5⟩
      · refine ⟨_, rfl, _, _, rfl, rfl, _, rfl, ?_⟩
        refine ite2 (fun _ => ?_) (fun _ => ?_)
        · refine ⟨_, rfl, h, c, _, rfl, hh2, by decide, by decide, fun n3 H3 n30 n31 kh3 hh3 => ?_⟩
          refine ⟨_, rfl, by show 1 ≤ sizeLine; decide, fun p1 hp1 => ⟨by show 3 ≤ sizeLine; decide, fun p hp => ?_⟩⟩
          have s3 : Same H3 (upd (upd H3 p1 (.tup [.int (1 + (i : Int))])) p (.tup [.str "wait", .int n3, .ref p1])) := (same_new hp1).trans (same_new hp)
          obtain ⟨H4, es', kvs', g1, g2, g3, g4, g5⟩ := things_put (t := .tuple [.str "wait", .int n3, .tuple [.int (1 + i)]]) (v := .ref p) ((kh12.trans kh3).trans (hh3.kh s3)) (hh3.same s3) ((ht2.kp kh3 ndh).same s3) hd hk (by omega)
            (.tup (.inl (.inl upd_same)) (.cons (.str _) (.cons (.int _) (.cons (.tup (.inl (.inl (by rw [upd_ne (ne_of_none upd_same hp)]; exact upd_same))) (.cons (.int _) .nil)) .nil)))) (th_wait (by omega) (by omega) n30 n31)
          exact ⟨_, rfl, _, rfl, d, H4, rfl, g1, _, _, es', kvs', rfl, g2, g3, g4, g5⟩
        · refine ⟨_, rfl, rfl, _, rfl, ?_⟩
          refine ite2 (fun _ => ?_) (fun _ => ?_)
          · refine ⟨by show 1 ≤ sizeLine; decide, fun p hp => ?_⟩
            obtain ⟨H4, es', kvs', g1, g2, g3, g4, g5⟩ := things_put (t := .tuple [.str "mark"]) (v := .ref p) (kh12.trans (hh2.kh (same_new hp))) (hh2.same (same_new hp)) (ht2.same (same_new hp)) hd hk (by omega)
              (.tup (.inl (.inl upd_same)) (.cons (.str _) .nil)) th_mark
            exact ⟨_, rfl, _, rfl, d, H4, rfl, g1, _, _, es', kvs', rfl, g2, g3, g4, g5⟩
          · refine ⟨_, rfl, by show 2 ≤ sizeLine; decide, fun p1 hp1 => ⟨by show 1 ≤ sizeLine; decide, fun p2 hp2 => ⟨by show 2 ≤ sizeLine; decide, fun p3 hp3 => ⟨by show 3 ≤ sizeLine; decide, fun p4 hp4 => ⟨by show 1 ≤ sizeLine; decide, fun p5 hp5 => ⟨by show 3 ≤ sizeLine; decide, fun l hl => ?_⟩⟩⟩⟩⟩⟩
            have t1 := same_new (o := .tup [.str "pass", .int 77]) hp1
            have t2 := same_new (o := .tup [.str "out"]) hp2
            have t3 := same_new (o := .tup [.str "give", .int 3]) hp3
            have t4 := same_new (o := .tup [.str "way", .ref p2, .ref p3]) hp4
            have t5 := same_new (o := .tup [.str "mark"]) hp5
            have t6 := same_new (o := .lst [.ref p1, .ref p4, .ref p5]) hl
            have s6 := t1.trans (t2.trans (t3.trans (t4.trans (t5.trans t6))))
            have hhL := hh2.same s6
            have nlh : l ≠ h := fun q => by
              obtain ⟨xs, e⟩ := hh2.lst
              have e2 := (t1.trans (t2.trans (t3.trans (t4.trans t5)))) _ _ e
              rw [← q, hl] at e2
              cases e2
            have d1 : Dp K _ (.ref p1) (.tuple [.str "pass", .int 77]) := .tup (.inl (.inl ((t2.trans (t3.trans (t4.trans (t5.trans t6)))) _ _ upd_same))) (.cons (.str _) (.cons (.int _) .nil))
            have d4 : Dp K _ (.ref p4) (.tuple [.str "way", .tuple [.str "out"], .tuple [.str "give", .int 3]]) :=
              .tup (.inl (.inl ((t5.trans t6) _ _ upd_same))) (.cons (.str _) (.cons (.tup (.inl (.inl ((t3.trans (t4.trans (t5.trans t6))) _ _ upd_same))) (.cons (.str _) .nil))
                (.cons (.tup (.inl (.inl ((t4.trans (t5.trans t6)) _ _ upd_same))) (.cons (.str _) (.cons (.int _) .nil))) .nil)))
            have d5 : Dp K _ (.ref p5) (.tuple [.str "mark"]) := .tup (.inl (.inl (t6 _ _ upd_same))) (.cons (.str _) .nil)
            refine ⟨h, c, l, _, rfl, hhL, .inl ⟨.inl (.inl upd_same), nlh⟩, by simp, by show 3 ≤ 1000; decide, fun v H3 hv kh3 hh3 => ?_⟩
            have kall := (kh12.trans (hh2.kh s6)).trans kh3
            have ht3 := (ht2.same s6).kp kh3 ndh
            have out : ∀ t : PyData, Dp K H3 v t → Th (1 + i) t → _ := fun t hv ht => things_put (h := h) kall hh3 ht3 hd hk (by omega) hv ht
            have any : ∃ t, Dp K H3 v t ∧ Th (1 + i) t := by
              rcases List.mem_cons.mp hv with rfl | hv
              · exact ⟨_, dp_keep (fun _ _ q => kh3.tup q) _ _ rfl d1, th_pass⟩
              · rcases List.mem_cons.mp hv with rfl | hv
                · exact ⟨_, dp_keep (fun _ _ q => kh3.tup q) _ _ rfl d4, th_way⟩
                · cases List.mem_singleton.mp hv
                  exact ⟨_, dp_keep (fun _ _ q => kh3.tup q) _ _ rfl d5, th_mark⟩
            obtain ⟨t, g, g0⟩ := any
            obtain ⟨H4, es', kvs', g1, g2, g3, g4, g5⟩ := out t g g0
            exact ⟨_, rfl, _, rfl, d, H4, rfl, g1, _, _, es', kvs', rfl, g2, g3, g4, g5⟩
    · rintro σ H1 ⟨v3, v4, es, kvs, rfl, kh, hh1, ht, hk⟩
      exact ⟨_, rfl, k d es kvs _ kh hh1 hd ht hk⟩
end
end K10

namespace K10
open PySem L2 Cm
/-- a row of at most most births out of 1 .. n -/
def spRow (K : PySem.W.Frag) : Sp := fun vs H Q _ => ∃ (h c d : Addr) (most : Int) (es : List (Int × PyData)) (kvs : List (Key × V)) (n : Nat), vs = [.ref h, .ref d, .int most] ∧ Hand H h c ∧ ThAt K H d es kvs ∧ es.map (·.1) = births n ∧ 1 ≤ n ∧ n ≤ 60 ∧
  0 ≤ most ∧ most ≤ 60 ∧ ∀ (t : Addr) (fs : List Int) (H' : Hp), Kh h H H' → Hand H' h c → SqT K H' t (fs.map V.int) → (fs.length : Int) ≤ most → (∀ b ∈ fs, b ∈ births n) → Q (.ref t) H'
theorem all_ints {K : PySem.W.Frag} {H : Hp} {P : Int → Prop} : ∀ {acc : List V} {ds : List PyData}, DpAll K H acc ds → (∀ d ∈ ds, ∃ b : Int, d = .int b ∧ P b) → ∃ fs : List Int, acc = fs.map V.int ∧ ds = fs.map PyData.int ∧ ∀ b ∈ fs, P b
  | _, _, .nil, _ => ⟨[], rfl, rfl, by simp⟩
  | _, _, .cons h t, g => by
    obtain ⟨b, rfl, hb⟩ := g _ List.mem_cons_self
    obtain ⟨fs, rfl, rfl, hf⟩ := all_ints t fun d hd => g d (List.mem_cons_of_mem _ hd)
    cases h
    exact ⟨b :: fs, rfl, rfl, fun x hx => by
      rcases List.mem_cons.mp hx with rfl | hx
      · exact hb
      · exact hf x hx⟩
section
variable {P : Program} {w : World} {K : PySem.W.Frag} {mg : Str → Option Value} {base : Heap}
abbrev s_l_row : Stmt := top 15
abbrev N_l_row : List Str := ["_law_hand_here", "_law_things_here", "_law_most", "_law_births", "_law_k"]
theorem sc_l_row : FnScope N_l_row ["_law_hand_here", "_law_things_here", "_law_most"] (defScope s_l_row) := ⟨rfl, rfl, rfl, by decide +kernel, rfl, by decide +kernel, by decide +kernel⟩
theorem ok_row (T : Txt mg) (c_l_draw : Cl P w K mg base 2 "_law_draw" spDraw) (c_l_pick : Cl P w K mg base 3 "_law_pick" (spPick K)) (D : At K mg "_law_row" s_l_row ["_law_hand_here", "_law_things_here", "_law_most"]) :
    Cl P w K mg base 4 "_law_row" (spRow K) := by
  refine cl_of D sc_l_row (fun vs H Q E h => ?_) fun f cdv A outer s H vs Q E hr h => ?_
  · obtain ⟨h, c, d, most, es, kvs, n, rfl, _⟩ := h
    rfl
  · obtain ⟨h, c, d, most, es, kvs, n, rfl, hh, ht, hk, hn1, hn2, hm0, hm1, k⟩ := h
    refine ⟨_, (pss_cons (ps_set (i := 3) sc_l_row.nd rfl (Or.inr rfl) (pe_callB (call_sortedK rfl) (by rfl) T.sorted (by decide +kernel) (pa_cons (pe_keys (pv 1)) pa_nil)))
      (pss_one (ps_ret (pe_tupleOf (by rfl) T.tuple (pe_lc (own := [("_law_k", 4)]) rfl sc_l_row.nd (pi_range1 (by rfl) T.range (pa_cons (pe_c c_l_draw hr (by decide) (by rfl) (pa_cons (pv 0) (pa_cons (pe_op op_add (pv 2) pe_int) pa_nil))) pa_nil)) (blkOk_by (N := N_l_row) (sc := defScope s_l_row) (by decide +kernel))
      (fun _ _ _ _ _ => (pg_name (i := 4) sc_l_row.nd rfl (Or.inl rfl)))
      (fun _ _ _ _ _ => pts_nil)
      (fun _ _ _ _ _ => (pe_c c_l_pick hr (by decide) (by rfl) (pa_cons (pv 0) (pa_cons (pv 3) pa_nil))))))))), ?_⟩
    refine ⟨_, rfl, d, rfl, ⟨_, ht.at_⟩, fun r hr0 => ⟨r, d, kvs, births n, rfl, upd_same, by rw [upd_ne (ne_of_none ht.at_ hr0)]; exact ht.at_, ?_, by rw [births_len]; omega, fun ys p perm _ hp => ?_⟩⟩
    · rw [ht.ks, ← hk, List.map_map]
      rfl
    · have s1 : Same H (upd (upd H r (ViewO r d)) p (.lst (ys.map V.int))) := (same_new hr0).trans (same_new hp)
      have hh1 := hh.same s1
      have hys : ∀ b ∈ ys, b ∈ births n := fun b hb => perm.mem_iff.mp hb
      have hlen : ys.length = n := by rw [perm.length_eq, births_len]
      have hph := hh1.ne (d := p)
      refine ⟨_, rfl, _, rfl, _, _, rfl, rfl, ?_⟩
      refine ⟨h, c, _, rfl, hh1, by omega, Int.lt_of_le_of_lt (show most + 1 ≤ 61 by omega) (by decide), fun m H2 m0 m1 kh2 hh2 => ?_⟩
      have pnh : p ≠ h := fun q => by
        obtain ⟨xs, e⟩ := hh.lst
        have e2 := (same_new (o := ViewO r d) hr0) _ _ e
        rw [← q, hp] at e2
        cases e2
      have hp2 : H2 p = some (.lst (ys.map V.int)) := kh2.st _ _ pnh upd_same
      refine ⟨_, rfl, by omega, by omega, fun D hD => ?_⟩
      have dn := hh2.there hD
      refine lc_draw (K := K) (M := fun a => a = h) (walk_range (lo := 0) (n := m.toNat)) (fun H => Hand H h c ∧ H p = some (.lst (ys.map V.int))) (fun x => ∃ b : Int, x = .int b ∧ b ∈ births n) (fun a ha => by rw [ha]; exact hh2.lst)
        ⟨hh2.same (same_new hD), (same_new hD) _ _ hp2⟩ (fun H ys' kH q => ⟨q.1.puts dn.1 dn.2, by rw [upd_ne (ne_of_none hp2 hD)]; exact q.2⟩) hD (by omega) (fun _ _ _ => trivial) (fun x ⟨b, e, _⟩ => by rw [e]; rfl) ?_ ?_
      · rintro i x H0 H3 hi k3 ⟨hh3, hp3⟩ ⟨rfl, rfl⟩ Q1 Q0 q1 q0
        refine ⟨rfl, ?_⟩
        refine ⟨_, rfl, _, rfl, h, c, p, _, rfl, hh3, .inl ⟨.inl (.inl hp3), pnh⟩, ?_, by rw [List.length_map]; omega, fun v H4 hv k4 hh4 => ?_⟩
        · intro e
          have := congrArg List.length e
          rw [List.length_map] at this
          simp at this
          rw [this] at hlen
          simp at hlen
          omega
        · obtain ⟨b, hb, rfl⟩ := List.mem_map.mp hv
          exact q1 _ _ (.int b) ⟨b, rfl, hys b hb⟩ k4 ⟨hh4, k4.st _ _ pnh hp3⟩ (.int b)
      · rintro H3 acc ds k3 ⟨hh3, hp3⟩ hacc ha hg hl
        obtain ⟨fs, rfl, rfl, hf⟩ := all_ints ha hg
        refine .inl ⟨D, _, rfl, .inl (.inl hacc), fun t htt => ?_⟩
        have kall := ((hh.kh s1).trans kh2).trans k3
        refine k t fs _ (kall.trans (hh3.kh (same_new htt))) (hh3.same (same_new htt)) (.inl (.inl upd_same)) ?_ hf
        rw [List.length_map] at hl
        omega
end
end K10

namespace K10
open PySem L2 Cm
abbrev Things := List (Int × PyData)
def windR (es : Things) (fs : List Int) (i : Nat) : Option (Int × Int) := (fs[i]?).bind fun b => if word es b = "wind" then some ((i : Int), b) else none
def winds (es : Things) (fs : List Int) : List (Int × Int) := (List.range fs.length).filterMap (windR es fs)
def encP (p : Int × Int) : PyData := .tuple [.int p.1, .int p.2]
theorem winds_enc (es : Things) (fs : List Int) : (List.range fs.length).filterMap (fun i => (windR es fs i).map encP) = (winds es fs).map encP := by
  unfold winds
  rw [List.map_filterMap]
structure Fr (K : PySem.W.Frag) (H : Hp) (a d : Addr) (fs : List Int) (es : Things) (kvs : List (Key × V)) : Prop where
  fr : SqT K H a (fs.map V.int)
  th : ThAt K H d es kvs
  ins : ∀ b ∈ fs, b ∈ es.map (·.1)
  len : fs.length ≤ 25000
theorem Fr.same {K : PySem.W.Frag} {H H' : Hp} {a d : Addr} {fs : List Int} {es : Things} {kvs : List (Key × V)} (x : Fr K H a d fs es kvs) (s : Same H H') : Fr K H' a d fs es kvs :=
  ⟨sqt_same s x.fr, x.th.same s, x.ins, x.len⟩
def spWindsT (K : PySem.W.Frag) : Sp := fun vs H Q _ => ∃ (a d : Addr) (fs : List Int) (es : Things) (kvs : List (Key × V)), vs = [.ref a, .ref d] ∧ Fr K H a d fs es kvs ∧
  ∀ (t : Addr) (xs : List V) (H' : Hp), Same H H' → SqT K H' t xs → DpAll K H' xs ((winds es fs).map encP) → Q (.ref t) H'
def spWindsL (K : PySem.W.Frag) : Sp := fun vs H Q _ => ∃ (a d : Addr) (fs : List Int) (es : Things) (kvs : List (Key × V)), vs = [.ref a, .ref d] ∧ Fr K H a d fs es kvs ∧
  ∀ (t : Addr) (xs : List V) (H' : Hp), Same H H' → H t = Option.none → H' t = some (.lst xs) → DpAll K H' xs ((winds es fs).map encP) → Q (.ref t) H'
section
variable {P : Program} {w : World} {K : PySem.W.Frag} {mg : Str → Option Value} {base : Heap}
abbrev s_p_winds_of : Stmt := top 1
abbrev N_p_winds_of : List Str := ["frames", "things", "position", "birth"]
theorem sc_p_winds_of : FnScope N_p_winds_of ["frames", "things"] (defScope s_p_winds_of) := ⟨rfl, rfl, rfl, by decide +kernel, rfl, by decide +kernel, by decide +kernel⟩
theorem ok_pwinds (T : Txt mg) (D : At K mg "winds_of" s_p_winds_of ["frames", "things"]) : Cl P w K mg base 1 "winds_of" (spWindsT K) := by
  refine cl_of D sc_p_winds_of (fun vs H Q E h => ?_) fun f cdv A outer s H vs Q E hr h => ?_
  · obtain ⟨a, d, fs, es, kvs, rfl, _⟩ := h
    rfl
  · obtain ⟨a, d, fs, es, kvs, rfl, x, k⟩ := h
    have hu := hu_of hr
    refine ⟨_, (pss_one (ps_ret (pe_tupleOf (by rfl) T.tuple (pe_lc (own := [("position", 2), ("birth", 3)]) (g := gTup K 2 (gCons (gName 2) (gCons (gName 3) gNil))) rfl sc_p_winds_of.nd (pi_enumT (by rfl) T.enumerate (pa_cons (pv 0) pa_nil)) (blkOk_by (N := N_p_winds_of) (sc := defScope s_p_winds_of) (by decide +kernel))
      (fun _ _ _ _ _ => pg_tup rfl (pgs_cons (pg_name (i := 2) sc_p_winds_of.nd rfl (Or.inl rfl)) (pgs_cons (pg_name (i := 3) sc_p_winds_of.nd rfl (Or.inl rfl)) pgs_nil)))
      (fun _ _ _ _ _ => (pts_one (pt_cmpR op_eq (pe_ix (kx_tup (K := K)) (pe_dget hu (pv 1) (pv 3) (fun _ _ => rfl)) pe_int (fun _ _ => rfl)) pe_str (nomark _))))
      (fun _ _ _ _ _ => (pe_tup (pa_cons (pv 2) (pa_cons (pv 3) pa_nil)))))))), ?_⟩
    refine ⟨_, rfl, a, _, rfl, x.fr, fun L hL => ?_⟩
    have hlen : (fs.map V.int).length = fs.length := List.length_map ..
    refine lc_data (K := K) (walk_enumT (xs := fs.map V.int)) (fun i => (windR es fs i).map encP) hL (by have := x.len; omega) (fun H' s1 => sqt_same s1 x.fr) (fun i _ z e => ?_) ?_ ?_
    · obtain ⟨q, _, rfl⟩ := Option.map_eq_some_iff.mp e
      rfl
    · rintro i v H1 H2 hi s1 ⟨T1, x1, x2, rfl, hT, rfl, e1, e2⟩ Q1 Q0 q1 q0
      cases e1
      obtain ⟨b, eb, rfl⟩ := map_at e2
      have s2 := s1.trans (same_new (o := .tup [.int (i : Nat), .int b]) hT)
      obtain ⟨p, its, g1, g2, g3, _⟩ := (x.th.same s2).get (x.ins b (List.mem_of_getElem? eb))
      refine ⟨T1, _, rfl, .inl (.inl upd_same), rfl, _, _, rfl, _, _, rfl, rfl, rfl, ?_⟩
      refine ⟨_, rfl, _, rfl, d, _, rfl, g1, p, its, _, _, rfl, rfl, g2, g3, rfl, _, rfl, ?_⟩
      rw [decS]
      by_cases hw : word es b = "wind"
      · rw [decide_eq_true hw]
        refine iteT ⟨_, rfl, _, rfl, by show 2 ≤ sizeLine; decide, fun q hq => ?_⟩
        refine q1 _ _ (encP ((i : Int), b)) ?_ ((same_new hT).trans (same_new hq)) (.tup (.inl (.inl upd_same)) (.cons (.int _) (.cons (.int _) .nil)))
        unfold windR
        rw [eb]
        show Option.map encP (if word es b = "wind" then some ((i : Int), b) else none) = _
        rw [if_pos hw]
        rfl
      · rw [decide_eq_false hw]
        refine iteF (q0 _ ?_ (same_new hT))
        unfold windR
        rw [eb]
        show Option.map encP (if word es b = "wind" then some ((i : Int), b) else none) = _
        rw [if_neg hw]
        rfl
    · intro H1 acc s1 hacc ha
      rw [hlen, winds_enc] at ha
      refine .inl ⟨L, _, rfl, .inl (.inl hacc), fun t ht => ?_⟩
      exact k t acc _ (s1.trans (same_new ht)) (.inl (.inl upd_same)) (dps_same (same_new ht) _ _ ha)
abbrev s_l_winds_of : Stmt := top 16
abbrev N_l_winds_of : List Str := ["_law_frames", "_law_things_here", "_law_at"]
theorem sc_l_winds_of : FnScope N_l_winds_of ["_law_frames", "_law_things_here"] (defScope s_l_winds_of) := ⟨rfl, rfl, rfl, by decide +kernel, rfl, by decide +kernel, by decide +kernel⟩
theorem ok_lwinds (T : Txt mg) (D : At K mg "_law_winds_of" s_l_winds_of ["_law_frames", "_law_things_here"]) : Cl P w K mg base 1 "_law_winds_of" (spWindsL K) := by
  refine cl_of D sc_l_winds_of (fun vs H Q E h => ?_) fun f cdv A outer s H vs Q E hr h => ?_
  · obtain ⟨a, d, fs, es, kvs, rfl, _⟩ := h
    rfl
  · obtain ⟨a, d, fs, es, kvs, rfl, x, k⟩ := h
    have hu := hu_of hr
    refine ⟨_, (pss_one (ps_ret (pe_lc (own := [("_law_at", 2)]) rfl sc_l_winds_of.nd (pi_range1 (by rfl) T.range (pa_cons (pe_callB call_len_seq (by rfl) T.len (by decide +kernel) (pa_cons (pv 0) pa_nil)) pa_nil)) (blkOk_by (N := N_l_winds_of) (sc := defScope s_l_winds_of) (by decide +kernel))
      (fun _ _ _ _ _ => (pg_name (i := 2) sc_l_winds_of.nd rfl (Or.inl rfl)))
      (fun _ _ _ _ _ => (pts_one (pt_cmpR op_eq (pe_ix (kx_tup (K := K)) (pe_dget hu (pv 1) (pe_ix (kx_tup (K := K)) (pv 0) (pv 2) (fun _ _ => rfl)) (fun _ _ => rfl)) pe_int (fun _ _ => rfl)) pe_str (nomark _))))
      (fun _ _ _ _ _ => (pe_tup (pa_cons (pv 2) (pa_cons (pe_ix (kx_tup (K := K)) (pv 0) (pv 2) (fun _ _ => rfl)) pa_nil))))))), ?_⟩
    have hlen : (fs.map V.int).length = fs.length := List.length_map ..
    have xl := x.len
    refine ⟨_, rfl, a, _, rfl, .inr x.fr, _, rfl, by omega, by omega, fun L hL => ?_⟩
    rw [hlen]
    refine lc_data (K := K) (walk_upto (n := (fs.length : Int).toNat)) (fun i => (windR es fs i).map encP) hL (by omega) (fun _ _ => trivial) (fun i _ z e => ?_) ?_ ?_
    · obtain ⟨q, _, rfl⟩ := Option.map_eq_some_iff.mp e
      rfl
    · rintro i v H0 H1 hi s1 ⟨rfl, rfl⟩ Q1 Q0 q1 q0
      have hi' : i < fs.length := by omega
      have eb : fs[i]? = some fs[i] := List.getElem?_eq_getElem hi'
      have hat : atI (fs.map V.int) ((i : Nat) : Int) = some (.int fs[i]) := by
        exact atI_nat (by rw [List.getElem?_map, eb]; rfl)
      obtain ⟨p, its, g1, g2, g3, _⟩ := (x.th.same s1).get (x.ins _ (List.getElem_mem hi'))
      refine ⟨rfl, ?_⟩
      refine ⟨_, rfl, _, rfl, _, rfl, a, _, _, _, rfl, rfl, sqt_same s1 x.fr, hat, d, _, rfl, g1, p, its, _, _, rfl, rfl, g2, g3, rfl, _, rfl, ?_⟩
      rw [decS]
      by_cases hw : word es fs[i] = "wind"
      · rw [decide_eq_true hw]
        refine iteT ⟨_, rfl, _, rfl, _, rfl, a, _, _, _, rfl, rfl, sqt_same s1 x.fr, hat, by show 2 ≤ sizeLine; decide, fun q hq => ?_⟩
        refine q1 _ _ (encP ((i : Int), fs[i])) ?_ (same_new hq) (.tup (.inl (.inl upd_same)) (.cons (.int _) (.cons (.int _) .nil)))
        unfold windR
        rw [eb]
        show Option.map encP (if word es fs[i] = "wind" then some ((i : Int), fs[i]) else none) = _
        rw [if_pos hw]
        rfl
      · rw [decide_eq_false hw]
        refine iteF (q0 _ ?_ (Same.refl _))
        unfold windR
        rw [eb]
        show Option.map encP (if word es fs[i] = "wind" then some ((i : Int), fs[i]) else none) = _
        rw [if_neg hw]
        rfl
    · intro H1 acc s1 hacc ha
      rw [show (fs.length : Int).toNat = fs.length by omega, winds_enc] at ha
      exact k L acc _ s1 hL hacc ha
end
end K10

namespace K10
open PySem L2 Cm
def common : List (Int × Int) → List (Int × Int) → Nat
  | a :: as, b :: bs => if a.2 = b.2 then common as bs + 1 else 0
  | _, _ => 0
theorem common_is : ∀ (as bs : List (Int × Int)) (i : Nat), (∀ j < i, ∃ a b, as[j]? = some a ∧ bs[j]? = some b ∧ a.2 = b.2) →
    (∀ a b, as[i]? = some a → bs[i]? = some b → a.2 ≠ b.2) → common as bs = i
  | [], bs, i, h, _ => by
    cases i with
    | zero => rfl
    | succ i =>
      obtain ⟨a, b, e, _⟩ := h 0 (by omega)
      simp at e
  | a :: as, [], i, h, _ => by
    cases i with
    | zero => rfl
    | succ i =>
      obtain ⟨a, b, _, e, _⟩ := h 0 (by omega)
      simp at e
  | a :: as, b :: bs, i, h, hn => by
    cases i with
    | zero =>
      have q := hn a b rfl rfl
      unfold common
      rw [if_neg q]
    | succ i =>
      obtain ⟨a', b', e1, e2, e3⟩ := h 0 (by omega)
      simp only [List.getElem?_cons_zero, Option.some.injEq] at e1 e2
      subst e1 e2
      unfold common
      rw [if_pos e3, common_is as bs i (fun j hj => ?_) fun x y e1 e2 => hn x y (by simpa using e1) (by simpa using e2)]
      obtain ⟨x, y, e1, e2, e3⟩ := h (j + 1) (by omega)
      exact ⟨x, y, by simpa using e1, by simpa using e2, e3⟩
theorem common_le : ∀ (as bs : List (Int × Int)), common as bs ≤ as.length ∧ common as bs ≤ bs.length
  | [], _ => by simp [common]
  | _ :: _, [] => by simp [common]
  | a :: as, b :: bs => by
    have := common_le as bs
    unfold common
    split
    · simp only [List.length_cons]
      omega
    · simp
theorem common_comm : ∀ (as bs : List (Int × Int)), common as bs = common bs as
  | [], [] => rfl
  | [], _ :: _ => rfl
  | _ :: _, [] => rfl
  | a :: as, b :: bs => by
    unfold common
    rw [common_comm as bs]
    by_cases h : a.2 = b.2
    · rw [if_pos h, if_pos h.symm]
    · rw [if_neg h, if_neg (fun q => h q.symm)]
theorem dp_enc {K : PySem.W.Frag} {H : Hp} {v : V} {p : Int × Int} (h : Dp K H v (encP p)) : ∃ t, v = .ref t ∧ SqT K H t [.int p.1, .int p.2] := by
  unfold encP at h
  cases h with
  | tup hs ha =>
    cases ha with
    | cons h1 h2 =>
      cases h1
      cases h2 with
      | cons h3 h4 =>
        cases h3
        cases h4
        exact ⟨_, rfl, hs⟩
def spShared (K : PySem.W.Frag) : Sp := fun vs H Q _ => ∃ (a b : Addr) (xs ys : List V) (as bs : List (Int × Int)), vs = [.ref a, .ref b] ∧ SqT K H a xs ∧ DpAll K H xs (as.map encP) ∧ SqT K H b ys ∧ DpAll K H ys (bs.map encP) ∧ as.length ≤ 25000 ∧ bs.length ≤ 25000 ∧
  ∀ H', Same H H' → Q (.int (common as bs : Nat)) H'
section
variable {P : Program} {w : World} {K : PySem.W.Frag} {mg : Str → Option Value} {base : Heap}
abbrev s_p_shared_many : Stmt := top 2
abbrev N_p_shared_many : List Str := ["left", "entered", "many", "one", "other"]
theorem sc_p_shared_many : FnScope N_p_shared_many ["left", "entered"] (defScope s_p_shared_many) := ⟨rfl, rfl, rfl, by decide +kernel, rfl, by decide +kernel, by decide +kernel⟩
theorem ok_shared_many (T : Txt mg) (D : At K mg "_shared_many" s_p_shared_many ["left", "entered"]) : Cl P w K mg base 1 "_shared_many" (spShared K) := by
  refine cl_of D sc_p_shared_many (fun vs H Q E h => ?_) fun f cdv A outer s H vs Q E hr h => ?_
  · obtain ⟨a, b, xs, ys, as, bs, rfl, _⟩ := h
    rfl
  · obtain ⟨a, b, xs, ys, as, bs, rfl, ha, hda, hb, hdb, la, lb, k⟩ := h
    refine ⟨_, (pss_cons (ps_set (i := 2) sc_p_shared_many.nd rfl (Or.inl rfl) pe_int)
      (pss_cons (ps_for PassesOwn.never rfl (RZ.pi_zipA (by rfl) T.zip (pa_cons (pv 0) (pa_cons (pv 1) pa_nil))) (pg_tup (by rfl) (pgs_cons (pg_name (i := 3) sc_p_shared_many.nd rfl (Or.inl rfl)) (pgs_cons (pg_name (i := 4) sc_p_shared_many.nd rfl (Or.inl rfl)) pgs_nil)))
        (pss_cons (ps_if (pt_cmpR op_ne (pe_ix ix_tup (pv 3) pe_int (fun _ _ => rfl)) (pe_ix ix_tup (pv 4) pe_int (fun _ _ => rfl)) (nomark _))
          (pss_one ps_break)
          pss_nil)
        (pss_one (ps_aug (i := 2) sc_p_shared_many.nd rfl (Or.inl rfl) pe_int ip_add))))
      (pss_one (ps_ret (pv 2))))), ?_⟩
    have lx : xs.length = as.length := by have := DpAll.len hda; rwa [List.length_map] at this
    have ly : ys.length = bs.length := by have := DpAll.len hdb; rwa [List.length_map] at this
    refine ⟨_, rfl, _, rfl, a, b, xs, ys, rfl, .inr ⟨ha, hb, ?_⟩⟩
    refine for_it (walk_zipT (xs := xs) (ys := ys) rfl) (fun i σ H' => ∃ v3 v4, σ = [some (.ref a), some (.ref b), some (.int (i : Nat)), v3, v4] ∧ Same H H' ∧ ∀ j < i, ∃ p q, as[j]? = some p ∧ bs[j]? = some q ∧ p.2 = q.2)
      ⟨none, none, rfl, Same.refl H, fun j hj => absurd hj (Nat.not_lt_zero _)⟩ (fun i σ H' _ z => ?_) ?_ ?_
    · obtain ⟨_, _, _, s1, _⟩ := z
      exact ⟨sqt_same s1 ha, sqt_same s1 hb⟩
    · rintro i v σ H1 H2 hi ⟨v3, v4, rfl, s1, hpre⟩ ⟨T1, x1, x2, rfl, hT, rfl, e1, e2⟩
      have s2 := s1.trans (same_new (o := .tup [x1, x2]) hT)
      obtain ⟨d1, g1, g2⟩ := DpAll.atV hda e1
      obtain ⟨p, ep, rfl⟩ := map_at g1
      obtain ⟨d2, g3, g4⟩ := DpAll.atV hdb e2
      obtain ⟨q, eq, rfl⟩ := map_at g3
      obtain ⟨t1, rfl, q1⟩ := dp_enc (dp_same s2 _ _ g2)
      obtain ⟨t2, rfl, q2⟩ := dp_enc (dp_same s2 _ _ g4)
      refine ⟨T1, _, rfl, .inl (.inl upd_same), rfl, _, _, rfl, _, _, rfl, rfl, ?_⟩
      refine ⟨_, rfl, t1, _, _, _, rfl, rfl, q1, rfl, _, rfl, t2, _, _, _, rfl, rfl, q2, rfl, rfl, _, rfl, ?_⟩
      by_cases h : p.2 = q.2
      · rw [show (!decide (V.int p.2 = V.int q.2)) = false by rw [h]; simp]
        refine iteF ⟨_, rfl, _, _, rfl, rfl, _, _, rfl, s2, fun j hj => ?_⟩
        by_cases hj' : j < i
        · exact hpre j hj'
        · have : j = i := by omega
          subst this
          exact ⟨p, q, ep, eq, h⟩
      · rw [show (!decide (V.int p.2 = V.int q.2)) = true by rw [decide_eq_false (fun z => h (V.int.inj z))]; rfl]
        refine iteT ?_
        have e := common_is as bs i hpre fun x y z1 z2 => by
          rw [ep] at z1
          rw [eq] at z2
          cases z1
          cases z2
          exact h
        refine ⟨_, rfl, ?_⟩
        rw [← e]
        exact k _ s2
    · rintro σ H1 ⟨v3, v4, rfl, s1, hpre⟩
      have e := common_is as bs (min xs.length ys.length) hpre fun x y z1 z2 => by
        have h1 := (List.getElem?_eq_some_iff.mp z1).1
        have h2 := (List.getElem?_eq_some_iff.mp z2).1
        omega
      refine ⟨_, rfl, ?_⟩
      rw [← e]
      exact k _ s1
end
end K10

namespace K10
open PySem L2 Cm
theorem cut_from {xs : List V} {k : Nat} (h : k ≤ xs.length) : cutV xs (some (k : Int)) Option.none = xs.drop k := by
  unfold cutV
  rw [HT.sIx_nat, HT.sIx_none, Nat.min_eq_left h]
  exact List.take_of_length_le (by rw [List.length_drop]; omega)
theorem cut_to {xs : List V} {k : Nat} (h : k ≤ xs.length) : cutV xs Option.none (some (k : Int)) = xs.take k := by
  unfold cutV
  rw [HT.sIx_nat, HT.sIx_none, Nat.min_eq_left h, List.drop_zero, Nat.sub_zero]
/-- t[k:] of a tuple: whichever object it is -/
theorem sl_from {K : PySem.W.Frag} {a : Addr} {xs : List V} {k : Nat} {σ : L2.St} {H : Hp} {Q : VK} (hs : SqT K H a xs) (hk : k ≤ xs.length) (h : ∀ t H', Same H H' → SqT K H' t (xs.drop k) → Q (.ref t) H') :
    (tNoPart σ H fun u H1 => rSlA K (.ref a) (some (k : Int)) u H1 Q) := by
  refine ⟨a, xs, rfl, hs, fun q => ?_, fun _ p hp => ?_⟩
  · rw [HT.sIx_nat, Nat.min_eq_left hk] at q
    have : k = 0 := q.1
    subst this
    exact h a H (Same.refl H) hs
  · rw [cut_from hk]
    exact h p _ (same_new hp) (.inl (.inl upd_same))
theorem sl_to {K : PySem.W.Frag} {a : Addr} {xs : List V} {k : Nat} {H : Hp} {Q : VK} (hs : SqT K H a xs) (hk : k ≤ xs.length) (h : ∀ t H', Same H H' → SqT K H' t (xs.take k) → Q (.ref t) H') :
    rSlA K (.ref a) Option.none (some (k : Int)) H Q := by
  refine ⟨a, xs, rfl, hs, fun q => ?_, fun _ p hp => ?_⟩
  · rw [HT.sIx_nat, Nat.min_eq_left hk] at q
    have e : xs.take k = xs := List.take_of_length_le (by rw [q.2]; exact Nat.le_refl _)
    refine h a H (Same.refl H) ?_
    rw [e]
    exact hs
  · rw [cut_to hk]
    exact h p _ (same_new hp) (.inl (.inl upd_same))
abbrev Dd := Str × Int × Int
def encD (p : Dd) : PyData := .tuple [.str p.1, .int p.2.1, .int p.2.2]
def deedsM (l e : List (Int × Int)) : List Dd := ((l.drop (common l e)).reverse.map fun p => (("leave" : Str), p.1, p.2)) ++ (e.drop (common l e)).map fun p => (("enter" : Str), p.1, p.2)
theorem range_at {α β : Type} (xs : List α) (f : α → β) : (List.range xs.length).filterMap (fun i => (xs[i]?).map f) = xs.map f := by
  induction xs with
  | nil => rfl
  | cons a r ih =>
    rw [List.length_cons, List.range_succ_eq_map, List.filterMap_cons]
    simp only [List.getElem?_cons_zero, Option.map_some, List.filterMap_map, List.map_cons]
    refine congrArg _ (Eq.trans (filterMap_eqs _ fun k _ => ?_) ih)
    simp
/-- [(wd, a, b) for a, b in xs] -/
theorem lc_pairs {K : PySem.W.Frag} {J : It} {G : Hp → Prop} {xs : List V} {ps : List (Int × Int)} {wd : Str} {i j : Nat} {own : List Nat} {σ : L2.St} {H1 : Hp} {D : Addr} {Qd : Hp → Prop}
    (wk : Walk J xs.length G (YAt xs)) (hx : DpAll K H1 xs (ps.map encP)) (hn : ps.length ≤ 25000) (hD : H1 D = Option.none) (hG : ∀ H, Same H1 H → G H) (hi : ∀ p : Int × Int, (((wipe σ own).set i (some (.int p.1))).set j (some (.int p.2)))[i]? = some (some (.int p.1)))
    (hj : ∀ p : Int × Int, (((wipe σ own).set i (some (.int p.1))).set j (some (.int p.2)))[j]? = some (some (.int p.2)))
    (hw : ∀ p : Int × Int, wipe (((wipe σ own).set i (some (.int p.1))).set j (some (.int p.2))) own = wipe σ own)
    (hd : ∀ H acc, Same H1 H → H D = some (.lst acc) → DpAll K H acc ((ps.map fun p => (wd, p.1, p.2)).map encD) → Qd H) :
    ∃ W : Nat → Nat → Hp → Prop, (∃ m, W 0 m (upd H1 D (.lst []))) ∧ ∀ m0 m H, W m0 m H →
      (J.stop m0 H ∧ Qd H) ∨ (J.go m0 H ∧ ∃ Nx : Hp → Prop, (∀ H', Nx H' → ∃ m', m' < m ∧ W (m0 + 1) m' H') ∧ ∀ x H', J.yld m0 H x H' → (gTup K 2 (gCons (gName i) (gCons (gName j) gNil))) x (wipe σ own) H' fun σ2 H2 => wipe σ2 own = wipe σ own ∧ tYes σ2 H2 fun b H3 =>
        if b = true then (tTup (tCons (tC (.str wd)) (tCons (tVar i) (tCons (tVar j) tNil)))) σ2 H3 fun y H4 => ∃ acc, H4 D = some (.lst acc) ∧ acc.length < sizeLine ∧ Nx (upd H4 D (.lst (acc ++ [y]))) else Nx H3) := by
  have lx : xs.length = ps.length := by have := DpAll.len hx; rwa [List.length_map] at this
  refine lc_data (K := K) wk (fun m => (ps[m]?).map fun p => encD (wd, p.1, p.2)) hD (by omega) hG (fun m _ z e => ?_) ?_ ?_
  · obtain ⟨q, _, rfl⟩ := Option.map_eq_some_iff.mp e
    rfl
  · rintro m v H0 H2 hm s1 ⟨rfl, e2⟩ Q1 Q0 q1 q0
    obtain ⟨d1, g1, g2⟩ := DpAll.atV hx e2
    obtain ⟨p, ep, rfl⟩ := map_at g1
    obtain ⟨t1, rfl, h1⟩ := dp_enc (dp_same s1 _ _ g2)
    refine ⟨t1, _, rfl, h1, rfl, _, _, rfl, _, _, rfl, rfl, hw p, ?_⟩
    refine iteT (B := Q0 H2) ⟨.int p.1, hi p, .int p.2, hj p, by show 3 ≤ sizeLine; decide, fun q hq => ?_⟩
    exact q1 _ _ (encD (wd, p.1, p.2)) (by rw [ep]; rfl) (same_new hq) (.tup (.inl (.inl upd_same)) (.cons (.str _) (.cons (.int _) (.cons (.int _) .nil))))
  · intro H2 acc s1 hacc ha
    refine hd H2 acc s1 hacc ?_
    rw [lx, range_at] at ha
    rw [List.map_map]
    exact ha
def spDeeds (K : PySem.W.Frag) : Sp := fun vs H Q _ => ∃ (a b d : Addr) (f1 f2 : List Int) (es : Things) (kvs : List (Key × V)), vs = [.ref a, .ref b, .ref d] ∧ Fr K H a d f1 es kvs ∧ Fr K H b d f2 es kvs ∧
  ∀ (t : Addr) (xs : List V) (H' : Hp), Same H H' → SqT K H' t xs → DpAll K H' xs ((deedsM (winds es f1) (winds es f2)).map encD) → Q (.ref t) H'
def spMany (K : PySem.W.Frag) : Sp := fun vs H Q _ => ∃ (a b d : Addr) (f1 f2 : List Int) (es : Things) (kvs : List (Key × V)), vs = [.ref a, .ref b, .ref d] ∧ Fr K H a d f1 es kvs ∧ Fr K H b d f2 es kvs ∧
  ∀ (H' : Hp), Same H H' → Q (.int (common (winds es f1) (winds es f2) : Nat)) H'
theorem winds_len (es : Things) (fs : List Int) : (winds es fs).length ≤ fs.length := by
  unfold winds
  exact Nat.le_trans (List.length_filterMap_le _ _) (by rw [List.length_range]; exact Nat.le_refl _)
section
variable {P : Program} {w : World} {K : PySem.W.Frag} {mg : Str → Option Value} {base : Heap}
abbrev s_p_deeds_of_way : Stmt := top 3
abbrev N_p_deeds_of_way : List Str := ["present", "goal", "things", "left", "entered", "many", "deeds", "position", "birth"]
theorem sc_p_deeds_of_way : FnScope N_p_deeds_of_way ["present", "goal", "things"] (defScope s_p_deeds_of_way) := ⟨rfl, rfl, rfl, by decide +kernel, rfl, by decide +kernel, by decide +kernel⟩
theorem ok_pdeeds (T : Txt mg) (c_p_winds_of : Cl P w K mg base 1 "winds_of" (spWindsT K)) (c_p_shared_many : Cl P w K mg base 1 "_shared_many" (spShared K)) (D : At K mg "deeds_of_way" s_p_deeds_of_way ["present", "goal", "things"]) :
    Cl P w K mg base 2 "deeds_of_way" (spDeeds K) := by
  refine cl_of D sc_p_deeds_of_way (fun vs H Q E h => ?_) fun f cdv A outer s H vs Q E hr h => ?_
  · obtain ⟨a, b, d, f1, f2, es, kvs, rfl, _⟩ := h
    rfl
  · obtain ⟨a, b, d, f1, f2, es, kvs, rfl, x1, x2, k⟩ := h
    refine ⟨_, (pss_cons (ps_set (i := 3) sc_p_deeds_of_way.nd rfl (Or.inl rfl) (pe_c c_p_winds_of hr (by decide) (by rfl) (pa_cons (pv 0) (pa_cons (pv 2) pa_nil))))
      (pss_cons (ps_set (i := 4) sc_p_deeds_of_way.nd rfl (Or.inl rfl) (pe_c c_p_winds_of hr (by decide) (by rfl) (pa_cons (pv 1) (pa_cons (pv 2) pa_nil))))
      (pss_cons (ps_set (i := 5) sc_p_deeds_of_way.nd rfl (Or.inl rfl) (pe_c c_p_shared_many hr (by decide) (by rfl) (pa_cons (pv 3) (pa_cons (pv 4) pa_nil))))
      (pss_cons (ps_setLc (i := 6) (own := [("position", 7), ("birth", 8)]) (g := gTup K 2 (gCons (gName 7) (gCons (gName 8) gNil))) rfl sc_p_deeds_of_way.nd rfl rfl (sw_true rfl rfl rfl (by decide +kernel)) (pi_tup (pe_revT (pe_slice sl_tupA (pv 3) (po_some (pv 5)) po_none))) (blkOk_by (N := N_p_deeds_of_way) (sc := defScope s_p_deeds_of_way) (by decide +kernel))
      (fun _ _ _ _ _ => (pg_tup rfl (pgs_cons (pg_name (i := 7) sc_p_deeds_of_way.nd rfl (Or.inl rfl)) (pgs_cons (pg_name (i := 8) sc_p_deeds_of_way.nd rfl (Or.inl rfl)) pgs_nil))))
      (fun _ _ _ _ _ => pts_nil)
      (fun _ _ _ _ _ => (pe_tup (pa_cons pe_str (pa_cons (pv 7) (pa_cons (pv 8) pa_nil))))))
      (pss_one (ps_ret (pe_tupleOf (by rfl) T.tuple (pe_op op_cat (pv 6) (pe_lc (own := [("position", 7), ("birth", 8)]) (g := gTup K 2 (gCons (gName 7) (gCons (gName 8) gNil))) rfl sc_p_deeds_of_way.nd (pi_tup (pe_slice sl_tupA (pv 4) (po_some (pv 5)) po_none)) (blkOk_by (N := N_p_deeds_of_way) (sc := defScope s_p_deeds_of_way) (by decide +kernel))
      (fun _ _ _ _ _ => (pg_tup rfl (pgs_cons (pg_name (i := 7) sc_p_deeds_of_way.nd rfl (Or.inl rfl)) (pgs_cons (pg_name (i := 8) sc_p_deeds_of_way.nd rfl (Or.inl rfl)) pgs_nil))))
      (fun _ _ _ _ _ => pts_nil)
      (fun _ _ _ _ _ => (pe_tup (pa_cons pe_str (pa_cons (pv 7) (pa_cons (pv 8) pa_nil)))))))))))))), ?_⟩
    refine ⟨_, rfl, _, rfl, a, d, f1, es, kvs, rfl, x1, fun t1 xs1 H1 s1 ht1 hd1 => ?_⟩
    refine ⟨_, rfl, _, rfl, b, d, f2, es, kvs, rfl, x2.same s1, fun t2 xs2 H2 s2 ht2 hd2 => ?_⟩
    have w1 : (winds es f1).length ≤ 25000 := Nat.le_trans (winds_len _ _) x1.len
    have w2 : (winds es f2).length ≤ 25000 := Nat.le_trans (winds_len _ _) x2.len
    have l1 : xs1.length = (winds es f1).length := by have := DpAll.len hd1; rwa [List.length_map] at this
    have l2 : xs2.length = (winds es f2).length := by have := DpAll.len hd2; rwa [List.length_map] at this
    have hc := common_le (winds es f1) (winds es f2)
    refine ⟨_, rfl, _, rfl, t1, t2, xs1, xs2, _, _, rfl, sqt_same s2 ht1, dps_same s2 _ _ hd1, ht2, hd2, w1, w2, fun H3 s3 => ?_⟩
    refine ⟨_, rfl, _, rfl, _, rfl, ?_⟩
    refine sl_from (sqt_same (s2.trans s3) ht1) (by omega) fun t3 H4 s4 ht3 => ?_
    refine ⟨t3, _, rfl, ht3, fun t4 hp4 => ⟨t4, rfl, ⟨_, .inl (.inl upd_same)⟩, fun D1 hD1 => ?_⟩⟩
    have s14 := ((s2.trans s3).trans s4).trans (same_new (o := .tup (xs1.drop (common (winds es f1) (winds es f2))).reverse) hp4)
    have hr1 : DpAll K (upd H4 t4 (.tup (xs1.drop (common (winds es f1) (winds es f2))).reverse)) (xs1.drop (common (winds es f1) (winds es f2))).reverse (((winds es f1).drop (common (winds es f1) (winds es f2))).reverse.map encP) := by
      rw [List.map_reverse, List.map_drop]
      exact DpAll.rev (DpAll.drop _ (dps_same s14 _ _ hd1))
    refine lc_pairs (wd := "leave") (walk_tup (K := K)) hr1 (by rw [List.length_reverse, List.length_drop]; omega) hD1 (fun H s => sqt_same s (.inl (.inl upd_same))) (fun _ => rfl) (fun _ => rfl) (fun _ => rfl) fun H5 acc1 s5 hacc1 hda1 => ?_
    refine ⟨_, rfl, _, rfl, _, rfl, _, rfl, ?_⟩
    refine sl_from (sqt_same (((s3.trans s4).trans (same_new hp4)).trans s5) ht2) (by omega) fun t6 H6 s6 ht6 => ?_
    refine ⟨t6, rfl, ⟨_, ht6⟩, fun D2 hD2 => ?_⟩
    have hr2 : DpAll K H6 (xs2.drop (common (winds es f1) (winds es f2))) (((winds es f2).drop (common (winds es f1) (winds es f2))).map encP) := by
      rw [List.map_drop]
      exact DpAll.drop _ (dps_same ((((s3.trans s4).trans (same_new hp4)).trans s5).trans s6) _ _ hd2)
    refine lc_pairs (wd := "enter") (walk_tup (K := K)) hr2 (by rw [List.length_drop]; omega) hD2 (fun H s => sqt_same s ht6) (fun _ => rfl) (fun _ => rfl) (fun _ => rfl) fun H7 acc2 s7 hacc2 hda2 => ?_
    have hl1 := DpAll.len hda1
    have hl2 := DpAll.len hda2
    simp only [List.length_map, List.length_reverse, List.length_drop] at hl1 hl2
    refine ⟨D1, D2, acc1, acc2, rfl, rfl, (s6.trans s7) _ _ hacc1, hacc2, Nat.le_trans (show acc1.length + acc2.length ≤ 50000 by omega) (by decide), fun p hp => ?_⟩
    refine .inl ⟨p, _, rfl, .inl (.inl upd_same), fun t ht => ?_⟩
    have sall := (same_new (o := .lst (acc1 ++ acc2)) hp).trans (same_new (o := .tup (acc1 ++ acc2)) ht)
    refine k t _ _ ((((s1.trans s14).trans s5).trans (s6.trans s7)).trans sall) (.inl (.inl upd_same)) ?_
    unfold deedsM
    rw [List.map_append]
    exact DpAll.app (dps_same ((s6.trans s7).trans sall) _ _ hda1) (dps_same sall _ _ hda2)
end
end K10

namespace K10
open PySem L2 Cm
/-- how many frames lie up to and with the topmost mark -/
def cutM (es : Things) (fs : List Int) : Nat → Nat
  | 0 => 0
  | n + 1 => if word es (fs.getD n 0) = "mark" then n + 1 else cutM es fs n
theorem cutM_le (es : Things) (fs : List Int) : ∀ n, cutM es fs n ≤ n
  | 0 => Nat.le_refl _
  | n + 1 => by
    have := cutM_le es fs n
    unfold cutM
    split <;> omega
theorem cutM_at (es : Things) (fs : List Int) : ∀ n, cutM es fs n = 0 ∨ ∃ j, cutM es fs n = j + 1 ∧ j < n ∧ word es (fs.getD j 0) = "mark"
  | 0 => .inl rfl
  | n + 1 => by
    unfold cutM
    split
    · rename_i h
      exact .inr ⟨n, rfl, by omega, h⟩
    · rcases cutM_at es fs n with h | ⟨j, h1, h2, h3⟩
      · exact .inl h
      · exact .inr ⟨j, h1, by omega, h3⟩
theorem cutM_top (es : Things) (fs : List Int) : ∀ n j, j < n → word es (fs.getD j 0) = "mark" → j + 1 ≤ cutM es fs n
  | 0, j, h, _ => absurd h (Nat.not_lt_zero _)
  | n + 1, j, h, hw => by
    unfold cutM
    split
    · omega
    · rename_i q
      by_cases e : j = n
      · subst e
        exact absurd hw q
      · exact cutM_top es fs n j (by omega) hw
def markR (es : Things) (fs : List Int) (i : Nat) : Option Int := (fs[i]?).bind fun b => if word es b = "mark" then some ((i : Int) + 1) else none
def marks (es : Things) (fs : List Int) : List Int := (List.range fs.length).filterMap (markR es fs)
theorem marks_mem {es : Things} {fs : List Int} {m : Int} : m ∈ marks es fs ↔ ∃ j, j < fs.length ∧ word es (fs.getD j 0) = "mark" ∧ m = (j : Int) + 1 := by
  unfold marks
  rw [List.mem_filterMap]
  constructor
  · rintro ⟨j, hj, e⟩
    have hj' := List.mem_range.mp hj
    unfold markR at e
    rw [List.getElem?_eq_getElem hj'] at e
    have e' : (if word es fs[j] = "mark" then some ((j : Int) + 1) else none) = some m := e
    split at e'
    · rename_i h
      refine ⟨j, hj', ?_, (Option.some.inj e').symm⟩
      rw [List.getD_eq_getElem?_getD, List.getElem?_eq_getElem hj']
      exact h
    · cases e'
  · rintro ⟨j, hj, h, rfl⟩
    refine ⟨j, List.mem_range.mpr hj, ?_⟩
    unfold markR
    rw [List.getElem?_eq_getElem hj]
    rw [List.getD_eq_getElem?_getD, List.getElem?_eq_getElem hj] at h
    exact if_pos h
theorem marks_max {es : Things} {fs : List Int} {m : Int} (h1 : m ∈ (0 : Int) :: marks es fs) (h2 : ∀ y, y ∈ (0 : Int) :: marks es fs → y ≤ m) : m = (cutM es fs fs.length : Nat) := by
  have a : (cutM es fs fs.length : Int) ≤ m := by
    rcases cutM_at es fs fs.length with h | ⟨j, e, hj, hw⟩
    · rw [h]
      exact h2 0 List.mem_cons_self
    · rw [e]
      exact h2 _ (List.mem_cons_of_mem _ (marks_mem.mpr ⟨j, hj, hw, by omega⟩))
  have b : m ≤ (cutM es fs fs.length : Int) := by
    rcases List.mem_cons.mp h1 with rfl | h1
    · omega
    · obtain ⟨j, hj, hw, rfl⟩ := marks_mem.mp h1
      have := cutM_top es fs fs.length j hj hw
      omega
  omega
def turnM (ds : List Dd) : List Dd := ds.reverse.map fun p => (if p.1 = ("leave" : Str) then ("enter" : Str) else "leave", p.2)
theorem turn_deeds (l e : List (Int × Int)) : turnM (deedsM l e) = deedsM e l := by
  unfold turnM deedsM
  rw [List.reverse_append, List.map_append, common_comm e l]
  congr 1
  · rw [← List.map_reverse, List.map_map]
    refine List.map_congr_left fun p _ => ?_
    show (if ("enter" : Str) = "leave" then ("enter" : Str) else "leave", p.1, p.2) = _
    rw [if_neg (by decide +kernel)]
  · rw [← List.map_reverse, List.reverse_reverse, List.map_map]
    refine List.map_congr_left fun p _ => ?_
    show (if ("leave" : Str) = "leave" then ("enter" : Str) else "leave", p.1, p.2) = _
    rw [if_pos rfl]
/-- a number out of frames and things -/
def spNum (K : PySem.W.Frag) (g : Things → List Int → Nat) : Sp := fun vs H Q _ => ∃ (a d : Addr) (fs : List Int) (es : Things) (kvs : List (Key × V)), vs = [.ref a, .ref d] ∧ Fr K H a d fs es kvs ∧
  ∀ (H' : Hp), Same H H' → Q (.int (g es fs : Nat)) H'
def cutAll (es : Things) (fs : List Int) : Nat := cutM es fs fs.length
section
variable {P : Program} {w : World} {K : PySem.W.Frag} {mg : Str → Option Value} {base : Heap}
abbrev s_p_mark_cut : Stmt := top 4
abbrev N_p_mark_cut : List Str := ["frames", "things", "many"]
theorem sc_p_mark_cut : FnScope N_p_mark_cut ["frames", "things"] (defScope s_p_mark_cut) := ⟨rfl, rfl, rfl, by decide +kernel, rfl, by decide +kernel, by decide +kernel⟩
theorem ok_mark_cut (T : Txt mg) (D : At K mg "mark_cut" s_p_mark_cut ["frames", "things"]) : Cl P w K mg base 1 "mark_cut" (spNum K cutAll) := by
  refine cl_of D sc_p_mark_cut (fun vs H Q E h => ?_) fun f cdv A outer s H vs Q E hr h => ?_
  · obtain ⟨a, d, fs, es, kvs, rfl, _⟩ := h
    rfl
  · obtain ⟨a, d, fs, es, kvs, rfl, x, k⟩ := h
    have hu := hu_of hr
    refine ⟨_, (pss_cons (ps_for PassesOwn.never rfl (pi_range3 (by rfl) T.range (pa_cons (pe_callB call_len_seq (by rfl) T.len (by decide +kernel) (pa_cons (pv 0) pa_nil)) (pa_cons pe_int (pa_cons (pe_un un_neg pe_int) pa_nil)))) (pg_name (i := 2) sc_p_mark_cut.nd rfl (Or.inl rfl))
        (pss_one (ps_if (pt_cmpR op_eq (pe_ix ix_tup (pe_dget hu (pv 1) (pe_ix ix_tup (pv 0) (pe_op op_sub (pv 2) pe_int) (fun _ _ => rfl)) (fun _ _ => rfl)) pe_int (fun _ _ => rfl)) pe_str (nomark _))
          (pss_one (ps_ret (pv 2)))
          pss_nil)))
      (pss_one (ps_ret pe_int))), ?_⟩
    have hlen : (fs.map V.int).length = fs.length := List.length_map ..
    have xl := x.len
    refine ⟨_, rfl, a, _, rfl, .inr x.fr, _, rfl, _, _, _, _, rfl, RgC.neg (by omega) (by omega) (by decide) (by decide), ?_⟩
    rw [hlen]
    refine for_it (walk_rangeC (n := ((fs.length : Int) - 0).toNat)) (fun i σ H' => ∃ v, σ = [some (.ref a), some (.ref d), v] ∧ Same H H' ∧ cutAll es fs = cutM es fs (fs.length - i)) ⟨none, rfl, Same.refl H, rfl⟩ (fun _ _ _ _ _ => trivial) ?_ ?_
    · rintro i v σ H0 H1 hi ⟨v2, rfl, s1, e⟩ ⟨rfl, rfl⟩
      have hj : fs.length - i = (fs.length - i - 1) + 1 := by omega
      have hlt : fs.length - i - 1 < fs.length := by omega
      have eb : fs[fs.length - i - 1]? = some fs[fs.length - i - 1] := List.getElem?_eq_getElem hlt
      have ed : fs.getD (fs.length - i - 1) 0 = fs[fs.length - i - 1] := by rw [List.getD_eq_getElem?_getD, eb]; rfl
      have ei : ((fs.length : Int) + (i : Int) * -1) - 1 = ((fs.length - i - 1 : Nat) : Int) := by omega
      have hat : atI (fs.map V.int) (((fs.length : Int) + (i : Int) * -1) - 1) = some (.int fs[fs.length - i - 1]) := by
        rw [ei]
        exact atI_nat (by rw [List.getElem?_map, eb]; rfl)
      obtain ⟨p, its, g1, g2, g3, _⟩ := (x.th.same s1).get (x.ins _ (List.getElem_mem hlt))
      rw [hj] at e
      unfold cutM at e
      rw [ed] at e
      refine ⟨_, rfl, _, rfl, _, rfl, _, _, rfl, rfl, a, _, _, _, rfl, rfl, sqt_same s1 x.fr, hat, d, _, rfl, g1, p, its, _, _, rfl, rfl, g2, g3, rfl, _, rfl, ?_⟩
      rw [decS]
      by_cases hw : word es fs[fs.length - i - 1] = "mark"
      · rw [decide_eq_true hw]
        rw [if_pos hw] at e
        refine iteT ⟨_, rfl, ?_⟩
        have ez : ((fs.length : Int) + (i : Int) * -1) = ((cutAll es fs : Nat) : Int) := by rw [e]; omega
        show Q (.int ((fs.length : Int) + (i : Int) * -1)) H1
        rw [ez]
        exact k _ s1
      · rw [decide_eq_false hw]
        rw [if_neg hw] at e
        refine iteF ⟨_, rfl, s1, ?_⟩
        rw [e]
        congr 1
    · rintro σ H1 ⟨v2, rfl, s1, e⟩
      have e0 : cutAll es fs = 0 := by
        rw [e, show fs.length - ((fs.length : Int) - 0).toNat = 0 by omega]
        rfl
      show Q (.int 0) H1
      have := k H1 s1
      rw [e0] at this
      exact this

end
end K10

namespace K10
open PySem L2 Cm
theorem dp_encD {K : PySem.W.Frag} {H : Hp} {v : V} {p : Dd} (h : Dp K H v (encD p)) : ∃ t, v = .ref t ∧ SqT K H t [.str p.1, .int p.2.1, .int p.2.2] := by
  unfold encD at h
  cases h with
  | tup hs ha =>
    cases ha with
    | cons h1 h2 =>
      cases h1
      cases h2 with
      | cons h3 h4 =>
        cases h3
        cases h4 with
        | cons h5 h6 =>
          cases h5
          cases h6
          exact ⟨_, rfl, hs⟩
def spTurned (K : PySem.W.Frag) : Sp := fun vs H Q _ => ∃ (l : Addr) (xs : List V) (ds : List Dd), vs = [.ref l] ∧ H l = some (.lst xs) ∧ DpAll K H xs (ds.map encD) ∧ ds.length ≤ 50000 ∧
  ∀ (m : Addr) (ys : List V) (H' : Hp), Same H H' → H m = Option.none → H' m = some (.lst ys) → DpAll K H' ys ((turnM ds).map encD) → Q (.ref m) H'
def spDeedsL (K : PySem.W.Frag) : Sp := fun vs H Q _ => ∃ (a b d : Addr) (f1 f2 : List Int) (es : Things) (kvs : List (Key × V)), vs = [.ref a, .ref b, .ref d] ∧ Fr K H a d f1 es kvs ∧ Fr K H b d f2 es kvs ∧
  ∀ (t m : Addr) (xs : List V) (H' : Hp), Same H H' → SqT K H' t [.int (common (winds es f1) (winds es f2) : Nat), .ref m] → H m = Option.none → H' m = some (.lst xs) → DpAll K H' xs ((deedsM (winds es f1) (winds es f2)).map encD) → Q (.ref t) H'
section
variable {P : Program} {w : World} {K : PySem.W.Frag} {mg : Str → Option Value} {base : Heap}
abbrev s_l_deeds : Stmt := top 18
abbrev N_l_deeds : List Str := ["_law_present", "_law_goal", "_law_things_here", "_law_here", "_law_there", "_law_many", "_law_deeds_here", "_law_at", "_law_birth"]
theorem sc_l_deeds : FnScope N_l_deeds ["_law_present", "_law_goal", "_law_things_here"] (defScope s_l_deeds) := ⟨rfl, rfl, rfl, by decide +kernel, rfl, by decide +kernel, by decide +kernel⟩
theorem ok_ldeeds (T : Txt mg) (c_l_winds_of : Cl P w K mg base 1 "_law_winds_of" (spWindsL K)) (D : At K mg "_law_deeds" s_l_deeds ["_law_present", "_law_goal", "_law_things_here"]) : Cl P w K mg base 2 "_law_deeds" (spDeedsL K) := by
  refine cl_of D sc_l_deeds (fun vs H Q E h => ?_) fun f cdv A outer s H vs Q E hr h => ?_
  · obtain ⟨a, b, d, f1, f2, es, kvs, rfl, _⟩ := h
    rfl
  · obtain ⟨a, b, d, f1, f2, es, kvs, rfl, x1, x2, k⟩ := h
    refine ⟨_, (pss_cons (ps_set (i := 3) sc_l_deeds.nd rfl (Or.inl rfl) (pe_c c_l_winds_of hr (by decide) (by rfl) (pa_cons (pv 0) (pa_cons (pv 2) pa_nil))))
      (pss_cons (ps_set (i := 4) sc_l_deeds.nd rfl (Or.inl rfl) (pe_c c_l_winds_of hr (by decide) (by rfl) (pa_cons (pv 1) (pa_cons (pv 2) pa_nil))))
      (pss_cons (ps_set (i := 5) sc_l_deeds.nd rfl (Or.inl rfl) pe_int)
      (pss_mid (ps_while PassesOwn.never (PW.pt (pw_and (pt_cmpR op_lt (pv 5) (pe_callB (call_min2 rfl) (by rfl) T.min (by decide +kernel) (pa_cons (pe_callB call_len_seq (by rfl) T.len (by decide +kernel) (pa_cons (pv 3) pa_nil)) (pa_cons (pe_callB call_len_seq (by rfl) T.len (by decide +kernel) (pa_cons (pv 4) pa_nil)) pa_nil))) (nomark _)) (pw_and1 (pt_cmpR op_eq (pe_ix ix_tup (pe_ix ix_list (pv 3) (pv 5) (fun _ _ => rfl)) pe_int (fun _ _ => rfl)) (pe_ix ix_tup (pe_ix ix_list (pv 4) (pv 5) (fun _ _ => rfl)) pe_int (fun _ _ => rfl)) (nomark _)))))
        (pss_one (ps_set (i := 5) sc_l_deeds.nd rfl (Or.inl rfl) (pe_op op_add (pv 5) pe_int))))
      (pss_cons (ps_setLc (i := 6) (own := [("_law_at", 7), ("_law_birth", 8)]) (g := gTup K 2 (gCons (gName 7) (gCons (gName 8) gNil))) rfl sc_l_deeds.nd rfl rfl (sw_true rfl rfl rfl (by decide +kernel)) (pi_list (pe_revL (pe_slice sl_list (pv 3) (po_some (pv 5)) po_none))) (blkOk_by (N := N_l_deeds) (sc := defScope s_l_deeds) (by decide +kernel))
      (fun _ _ _ _ _ => (pg_tup rfl (pgs_cons (pg_name (i := 7) sc_l_deeds.nd rfl (Or.inl rfl)) (pgs_cons (pg_name (i := 8) sc_l_deeds.nd rfl (Or.inl rfl)) pgs_nil))))
      (fun _ _ _ _ _ => pts_nil)
      (fun _ _ _ _ _ => (pe_tup (pa_cons pe_str (pa_cons (pv 7) (pa_cons (pv 8) pa_nil))))))
      (pss_one (ps_ret (pe_tup (pa_cons (pv 5) (pa_cons (pe_op op_cat (pv 6) (pe_lc (own := [("_law_at", 7), ("_law_birth", 8)]) (g := gTup K 2 (gCons (gName 7) (gCons (gName 8) gNil))) rfl sc_l_deeds.nd (pi_list (pe_slice sl_list (pv 4) (po_some (pv 5)) po_none)) (blkOk_by (N := N_l_deeds) (sc := defScope s_l_deeds) (by decide +kernel))
      (fun _ _ _ _ _ => (pg_tup rfl (pgs_cons (pg_name (i := 7) sc_l_deeds.nd rfl (Or.inl rfl)) (pgs_cons (pg_name (i := 8) sc_l_deeds.nd rfl (Or.inl rfl)) pgs_nil))))
      (fun _ _ _ _ _ => pts_nil)
      (fun _ _ _ _ _ => (pe_tup (pa_cons pe_str (pa_cons (pv 7) (pa_cons (pv 8) pa_nil))))))) pa_nil)))))))))), ?_⟩
    refine ⟨_, rfl, _, rfl, a, d, f1, es, kvs, rfl, x1, fun t1 xs1 H1 s1 hf1 ht1 hd1 => ?_⟩
    refine ⟨_, rfl, _, rfl, b, d, f2, es, kvs, rfl, x2.same s1, fun t2 xs2 H2 s2 hf2 ht2 hd2 => ?_⟩
    have w1 : (winds es f1).length ≤ 25000 := Nat.le_trans (winds_len _ _) x1.len
    have w2 : (winds es f2).length ≤ 25000 := Nat.le_trans (winds_len _ _) x2.len
    have l1 : xs1.length = (winds es f1).length := by have := DpAll.len hd1; rwa [List.length_map] at this
    have l2 : xs2.length = (winds es f2).length := by have := DpAll.len hd2; rwa [List.length_map] at this
    have hc := common_le (winds es f1) (winds es f2)
    have ht1' := s2 _ _ ht1
    have hd1' := dps_same s2 _ _ hd1
    refine ⟨fun σ' H' => σ' = [some (.ref a), some (.ref b), some (.ref d), some (.ref t1), some (.ref t2), some (.int (common (winds es f1) (winds es f2) : Nat)), Option.none, Option.none, Option.none] ∧ H2 = H', ?_, ?_⟩
    · refine ⟨fun m σ H' => ∃ i : Nat, m = 50000 - i ∧ i ≤ 25000 ∧ σ = [some (.ref a), some (.ref b), some (.ref d), some (.ref t1), some (.ref t2), some (.int (i : Nat)), Option.none, Option.none, Option.none] ∧ H2 = H' ∧
        (∀ j < i, ∃ p q, (winds es f1)[j]? = some p ∧ (winds es f2)[j]? = some q ∧ p.2 = q.2), ⟨_, 0, rfl, by omega, rfl, rfl, fun j hj => absurd hj (Nat.not_lt_zero _)⟩, ?_⟩
      rintro m σ H' ⟨i, rfl, hi, rfl, rfl, hpre⟩
      refine ⟨_, rfl, _, rfl, t1, xs1, rfl, .inl (.inl (.inl ht1')), _, rfl, t2, xs2, rfl, .inl (.inl (.inl ht2)), _, _, rfl, _, _, rfl, rfl, _, rfl, ?_⟩
      by_cases hlt : i < xs1.length ∧ i < xs2.length
      · have e1 : xs1[i]? = some xs1[i] := List.getElem?_eq_getElem hlt.1
        have e2 : xs2[i]? = some xs2[i] := List.getElem?_eq_getElem hlt.2
        obtain ⟨_, g1, g2⟩ := DpAll.atV hd1' e1
        obtain ⟨p, ep, rfl⟩ := map_at g1
        obtain ⟨_, g3, g4⟩ := DpAll.atV hd2 e2
        obtain ⟨q, eq, rfl⟩ := map_at g3
        obtain ⟨u1, e3, h1⟩ := dp_enc g2
        obtain ⟨u2, e4, h2⟩ := dp_enc g4
        rw [e3] at e1
        rw [e4] at e2
        rw [decide_eq_true (show (i : Int) < _ by split <;> omega)]
        refine iteT ⟨_, rfl, _, rfl, t1, _, _, _, rfl, rfl, .inl (.inl ht1'), atI_nat e1, u1, _, _, _, rfl, rfl, h1, rfl, _, rfl, _, rfl, t2, _, _, _, rfl, rfl, .inl (.inl ht2), atI_nat e2, u2, _, _, _, rfl, rfl, h2, rfl, rfl, _, rfl, ?_⟩
        by_cases hpq : p.2 = q.2
        · rw [show decide (V.int p.2 = V.int q.2) = true by rw [hpq]; simp]
          refine iteT ⟨fun σ' H' => σ' = [some (.ref a), some (.ref b), some (.ref d), some (.ref t1), some (.ref t2), some (.int ((i : Int) + 1)), Option.none, Option.none, Option.none] ∧ H2 = H', ?_, ?_⟩
          · rintro σ' H' ⟨rfl, rfl⟩
            refine ⟨50000 - (i + 1), by omega, i + 1, rfl, by omega, rfl, rfl, fun j hj => ?_⟩
            by_cases hj' : j < i
            · exact hpre j hj'
            · have : j = i := by omega
              subst this
              exact ⟨p, q, ep, eq, hpq⟩
          · exact ⟨_, rfl, _, _, rfl, rfl, rfl, rfl⟩
        · rw [show decide (V.int p.2 = V.int q.2) = false from decide_eq_false fun z => hpq (V.int.inj z)]
          have e := common_is _ _ i hpre fun x y z1 z2 => by
            rw [ep] at z1
            rw [eq] at z2
            cases z1
            cases z2
            exact hpq
          refine iteF ⟨?_, rfl⟩
          rw [e]
      · rw [decide_eq_false (show ¬ (i : Int) < _ by split <;> omega)]
        have e := common_is (winds es f1) (winds es f2) i hpre fun x y z1 z2 => by
          have h1 := (List.getElem?_eq_some_iff.mp z1).1
          have h2 := (List.getElem?_eq_some_iff.mp z2).1
          omega
        refine iteF (iteF ⟨?_, rfl⟩)
        rw [e]
    · rintro σ' H' ⟨rfl, rfl⟩
      refine ⟨_, rfl, _, rfl, _, rfl, t1, xs1, rfl, .inl (.inl ht1'), fun t3 ht3 => ?_⟩
      refine ⟨t3, _, rfl, .inl (.inl upd_same), fun t4 hp4 => ⟨t4, rfl, ⟨_, .inl (.inl upd_same)⟩, fun D1 hD1 => ?_⟩⟩
      have s3 := same_new (o := .lst (cutV xs1 (some ((common (winds es f1) (winds es f2) : Nat) : Int)) Option.none)) ht3
      have s4 := same_new (o := .lst (cutV xs1 (some ((common (winds es f1) (winds es f2) : Nat) : Int)) Option.none).reverse) hp4
      have hr1 : DpAll K (upd (upd H2 t3 (.lst (cutV xs1 (some ((common (winds es f1) (winds es f2) : Nat) : Int)) Option.none))) t4 (.lst (cutV xs1 (some ((common (winds es f1) (winds es f2) : Nat) : Int)) Option.none).reverse))
          (cutV xs1 (some ((common (winds es f1) (winds es f2) : Nat) : Int)) Option.none).reverse (((winds es f1).drop (common (winds es f1) (winds es f2))).reverse.map encP) := by
        have h0 := DpAll.rev (DpAll.drop (common (winds es f1) (winds es f2)) (dps_same (s3.trans s4) _ _ hd1'))
        rw [← cut_from (xs := xs1) (by omega)] at h0
        rw [List.map_reverse, List.map_drop]
        exact h0
      refine lc_pairs (wd := "leave") (walk_list (K := K)) hr1 (by rw [List.length_reverse, List.length_drop]; omega) hD1 (fun H s => s.seq (.inl (.inl upd_same))) (fun _ => rfl) (fun _ => rfl) (fun _ => rfl) fun H5 acc1 s5 hacc1 hda1 => ?_
      have s25 := (s3.trans s4).trans s5
      refine ⟨_, rfl, _, rfl, _, rfl, _, rfl, _, rfl, t2, xs2, rfl, .inl (.inl (s25 _ _ ht2)), fun t6 ht6 => ?_⟩
      refine ⟨t6, rfl, ⟨_, .inl (.inl upd_same)⟩, fun D2 hD2 => ?_⟩
      have s6 := same_new (o := .lst (cutV xs2 (some ((common (winds es f1) (winds es f2) : Nat) : Int)) Option.none)) ht6
      have hr2 : DpAll K (upd H5 t6 (.lst (cutV xs2 (some ((common (winds es f1) (winds es f2) : Nat) : Int)) Option.none))) (cutV xs2 (some ((common (winds es f1) (winds es f2) : Nat) : Int)) Option.none) (((winds es f2).drop (common (winds es f1) (winds es f2))).map encP) := by
        have h0 := DpAll.drop (common (winds es f1) (winds es f2)) (dps_same (s25.trans s6) _ _ hd2)
        rw [← cut_from (xs := xs2) (by omega)] at h0
        rw [List.map_drop]
        exact h0
      refine lc_pairs (wd := "enter") (walk_list (K := K)) hr2 (by rw [List.length_drop]; omega) hD2 (fun H s => s.seq (.inl (.inl upd_same))) (fun _ => rfl) (fun _ => rfl) (fun _ => rfl) fun H7 acc2 s7 hacc2 hda2 => ?_
      have hl1 := DpAll.len hda1
      have hl2 := DpAll.len hda2
      simp only [List.length_map, List.length_reverse, List.length_drop] at hl1 hl2
      refine ⟨D1, D2, acc1, acc2, rfl, rfl, (s6.trans s7) _ _ hacc1, hacc2, Nat.le_trans (show acc1.length + acc2.length ≤ 50000 by omega) (by decide), fun p hp => ?_⟩
      have sH7 : Same H H7 := ((s1.trans s2).trans s25).trans (s6.trans s7)
      refine ⟨by show 2 ≤ sizeLine; decide, fun t ht => ?_⟩
      have sp1 := same_new (o := .lst (acc1 ++ acc2)) hp
      refine k t p (acc1 ++ acc2) _ (sH7.trans (sp1.trans (same_new ht))) (.inl (.inl upd_same)) (sH7.free hp) ((same_new ht) _ _ upd_same) ?_
      unfold deedsM
      rw [List.map_append]
      exact DpAll.app (dps_same ((s6.trans s7).trans (sp1.trans (same_new ht))) _ _ hda1) (dps_same (sp1.trans (same_new ht)) _ _ hda2)
end
end K10

namespace K10
open PySem L2 Cm
theorem cat_any {K : PySem.W.Frag} {a b : Addr} {xs ys : List V} {H : Hp} {Q : VK} (ha : SqT K H a xs) (hb : SqT K H b ys) (hl : xs.length + ys.length ≤ sizeLine)
    (h : ∀ t H', Same H H' → SqT K H' t (xs ++ ys) → Q (.ref t) H') : rCatA K (.ref a) (.ref b) H Q := by
  refine ⟨a, b, xs, ys, rfl, rfl, ha, hb, hl, fun e => ?_, fun _ e => ?_, fun _ _ p hp => h p _ (same_new hp) (.inl (.inl upd_same))⟩
  · exact h b H (Same.refl H) (by rw [e]; exact hb)
  · exact h a H (Same.refl H) (by rw [e, List.append_nil]; exact ha)
def spNear (K : PySem.W.Frag) : Sp := fun vs H Q _ => ∃ (h c d a : Addr) (es : Things) (kvs : List (Key × V)) (n : Nat) (fs : List Int), vs = [.ref h, .ref d, .ref a] ∧ Hand H h c ∧ ThAt K H d es kvs ∧ es.map (·.1) = births n ∧ 1 ≤ n ∧ n ≤ 60 ∧
  SqT K H a (fs.map V.int) ∧ fs.length ≤ 10000 ∧ (∀ b ∈ fs, b ∈ births n) ∧
  ∀ (t : Addr) (gs : List Int) (H' : Hp), Kh h H H' → Hand H' h c → SqT K H' t (gs.map V.int) → gs.length ≤ 3 * fs.length + 6 → (∀ b ∈ gs, b ∈ births n) → Q (.ref t) H'
section
variable {P : Program} {w : World} {K : PySem.W.Frag} {mg : Str → Option Value} {base : Heap}
abbrev s_l_near : Stmt := top 17
abbrev N_l_near : List Str := ["_law_hand_here", "_law_things_here", "_law_frames", "_law_out", "_law_birth", "_law_each"]
theorem sc_l_near : FnScope N_l_near ["_law_hand_here", "_law_things_here", "_law_frames"] (defScope s_l_near) := ⟨rfl, rfl, rfl, by decide +kernel, rfl, by decide +kernel, by decide +kernel⟩
theorem ok_near (T : Txt mg) (c_l_draw : Cl P w K mg base 2 "_law_draw" spDraw) (c_l_row : Cl P w K mg base 4 "_law_row" (spRow K)) (D : At K mg "_law_near" s_l_near ["_law_hand_here", "_law_things_here", "_law_frames"]) :
    Cl P w K mg base 5 "_law_near" (spNear K) := by
  refine cl_of D sc_l_near (fun vs H Q E h => ?_) fun f cdv A outer s H vs Q E hr h => ?_
  · obtain ⟨h, c, d, a, es, kvs, n, fs, rfl, _⟩ := h
    rfl
  · obtain ⟨h, c, d, a, es, kvs, n, fs, rfl, hh, ht, hk, hn1, hn2, ha, hlen, hfs, k⟩ := h
    have hu := hu_of hr
    refine ⟨_, (pss_cons (ps_set (i := 3) sc_l_near.nd rfl (Or.inl rfl) (pe_lst pa_nil))
      (pss_cons (ps_for PassesOwn.never rfl (pi_tup (pe_slice sl_tupA (pv 2) po_none (po_some (pe_c c_l_draw hr (by decide) (by rfl) (pa_cons (pv 0) (pa_cons (pe_op op_add (pe_callB call_len_seq (by rfl) T.len (by decide +kernel) (pa_cons (pv 2) pa_nil)) pe_int) pa_nil)))))) (pg_name (i := 4) sc_l_near.nd rfl (Or.inl rfl))
        (pss_mid (ps_if (PW.pt (pw_or (pt_cmpR op_eq (pe_ix ix_tup (pe_dget hu (pv 1) (pv 4) (fun _ _ => rfl)) pe_int (fun _ _ => rfl)) pe_str (nomark _)) (pw_or1 (pt_cmpR op_gt (pe_c c_l_draw hr (by decide) (by rfl) (pa_cons (pv 0) (pa_cons pe_int pa_nil))) pe_int (nomark _)))))
          (pss_one (ps_expr (pe_bm PySem.F.plainAttrs_list PySem.F.slot_list_append PySem.F.type_list_append mt_append (pv 3) (pa_cons (pv 4) pa_nil))))
          pss_nil)
        (pss_one (ps_if (pt_cmpR op_eq (pe_c c_l_draw hr (by decide) (by rfl) (pa_cons (pv 0) (pa_cons pe_int pa_nil))) pe_int (nomark _))
          (pss_one (ps_set (i := 3) sc_l_near.nd rfl (Or.inl rfl) (pe_op op_cat (pv 3) (pe_lc (own := [("_law_each", 5)]) rfl sc_l_near.nd (pi_tup (pe_c c_l_row hr (by decide) (by rfl) (pa_cons (pv 0) (pa_cons (pv 1) (pa_cons pe_int pa_nil))))) (blkOk_by (N := N_l_near) (sc := defScope s_l_near) (by decide +kernel))
      (fun _ _ _ _ _ => (pg_name (i := 5) sc_l_near.nd rfl (Or.inl rfl)))
      (fun _ _ _ _ _ => (pts_one (pt_cmpR op_ne (pe_ix (kx_tup (K := K)) (pe_dget hu (pv 1) (pv 5) (fun _ _ => rfl)) pe_int (fun _ _ => rfl)) pe_str (nomark _))))
      (fun _ _ _ _ _ => (pv 5))))))
          pss_nil))))
      (pss_one (ps_ret (pe_op op_catA (pe_tupleOf (by rfl) T.tuple (pv 3)) (pe_c c_l_row hr (by decide) (by rfl) (pa_cons (pv 0) (pa_cons (pv 1) (pa_cons pe_int pa_nil))))))))), ?_⟩
    refine ⟨Nat.zero_le _, fun o0 ho0 => ?_⟩
    have s0 := same_new (o := .lst []) ho0
    refine ⟨_, rfl, _, rfl, _, rfl, a, _, rfl, .inr (sqt_same s0 ha), _, _, rfl, rfl, h, c, _, rfl, hh.same s0, by omega, ?_, fun m H2 m0 m1 kh2 hh2 => ?_⟩
    · rw [List.length_map]
      exact Int.lt_of_le_of_lt (show (fs.length : Int) + 1 ≤ 10001 by omega) (by decide)
    obtain ⟨m, rfl⟩ : ∃ j : Nat, m = (j : Int) := ⟨m.toNat, by omega⟩
    rw [List.length_map] at m1
    refine ⟨_, rfl, ?_⟩
    refine sl_to (kh2.tup (sqt_same s0 ha)) (by rw [List.length_map]; omega) fun t3 H3 s3 ht3 => ?_
    have th0 := hh.there ho0
    have dnh : ¬ d = h := hh.ne (fun xs e => by rw [ht.at_] at e; cases e)
    have dno : ¬ d = o0 := ne_of_none ht.at_ ho0
    have k03 : Kh h H H3 := ((hh.kh s0).trans kh2).trans (hh2.kh s3)
    refine ⟨t3, rfl, ⟨_, ht3⟩, ?_⟩
    have hl3 : ((fs.map V.int).take m).length = m := by rw [List.length_take, List.length_map]; omega
    refine for_it (walk_tup (xs := (fs.map V.int).take m)) (fun i σ H' => ∃ (o : Addr) (gs : List Int) (v4 : Option V), σ = [some (.ref h), some (.ref d), some (.ref a), some (.ref o), v4, Option.none] ∧ Kh h H H' ∧ Hand H' h c ∧ H o = Option.none ∧ H' o = some (.lst (gs.map V.int)) ∧
        SqT K H' t3 ((fs.map V.int).take m) ∧ gs.length ≤ 3 * i ∧ ∀ b ∈ gs, b ∈ births n)
      ⟨o0, [], Option.none, rfl, k03, hh2.same s3, ho0, s3 _ _ (kh2.st _ _ th0.1 upd_same), ht3, Nat.zero_le _, by intro b hb; cases hb⟩ (fun i σ H' _ z => ?_) ?_ ?_
    · obtain ⟨_, _, _, _, _, _, _, _, q, _⟩ := z
      exact q
    · rintro i x σ H0 H4 hi ⟨o, gs, v4, rfl, k4, hh4, ho, hgs, ht4, hlg, hg⟩ ⟨rfl, e2⟩
      have ex : (fs.map V.int)[i]? = some x := by
        rw [List.getElem?_take_of_lt (by omega)] at e2
        exact e2
      obtain ⟨b, eb, rfl⟩ := map_at ex
      have hb : b ∈ births n := hfs b (List.mem_of_getElem? eb)
      have tho := hh.there ho
      -- the state behind the first if
      refine ⟨fun σ' H' => ∃ (gs : List Int), σ' = [some (.ref h), some (.ref d), some (.ref a), some (.ref o), some (.int b), Option.none] ∧ Kh h H H' ∧ Hand H' h c ∧ H' o = some (.lst (gs.map V.int)) ∧
        SqT K H' t3 ((fs.map V.int).take m) ∧ gs.length ≤ 3 * i + 1 ∧ ∀ b ∈ gs, b ∈ births n, ?_, ?_⟩
      · have put : ∀ H' : Hp, Kh h H H' → Hand H' h c → H' o = some (.lst (gs.map V.int)) → SqT K H' t3 ((fs.map V.int).take m) →
            ∃ l xs y, V.ref o = V.ref l ∧ [V.int b] = [y] ∧ H' l = some (.lst xs) ∧ xs.length < sizeLine ∧
              ∃ (gs : List Int), [some (V.ref h), some (.ref d), some (.ref a), some (.ref o), some (.int b), Option.none] = [some (V.ref h), some (.ref d), some (.ref a), some (.ref o), some (.int b), Option.none] ∧ Kh h H (upd H' l (.lst (xs ++ [y]))) ∧
                Hand (upd H' l (.lst (xs ++ [y]))) h c ∧ (upd H' l (.lst (xs ++ [y]))) o = some (.lst (gs.map V.int)) ∧ SqT K (upd H' l (.lst (xs ++ [y]))) t3 ((fs.map V.int).take m) ∧ gs.length ≤ 3 * i + 1 ∧ ∀ b ∈ gs, b ∈ births n := by
          intro H' k' hh' ho' ht'
          refine ⟨o, _, _, rfl, rfl, ho', ?_, gs ++ [b], rfl, k'.mut ho, hh'.puts tho.1 tho.2, ?_, sqt_put ho' ht', by rw [List.length_append]; exact Nat.succ_le_succ hlg, fun z hz => ?_⟩
          · rw [List.length_map]
            exact Nat.lt_of_le_of_lt hlg (Nat.lt_of_lt_of_le (show 3 * i < 100000 by omega) (by decide))
          · rw [upd_same, List.map_append]
            rfl
          · rcases List.mem_append.mp hz with q | q
            · exact hg z q
            · cases List.mem_singleton.mp q
              exact hb
        obtain ⟨p, its, g1, g2, g3, _⟩ := (ht.kp k4 dnh).get (by rw [hk]; exact hb)
        refine ⟨_, rfl, _, rfl, d, _, rfl, g1, p, its, _, _, rfl, rfl, g2, g3, rfl, _, rfl, ?_⟩
        refine ite2 (fun _ => ?_) (fun _ => ?_)
        · exact iteT ⟨_, rfl, .inl ⟨rfl, _, .inl (.inl hgs)⟩, _, rfl, put _ k4 hh4 hgs ht4⟩
        · refine ⟨_, rfl, h, c, _, rfl, hh4, by decide, by decide, fun q H5 q0 q1 k5 hh5 => ?_⟩
          have hgs5 := k5.st _ _ tho.1 hgs
          refine ⟨_, _, rfl, rfl, _, rfl, ?_⟩
          refine ite2 (fun _ => ?_) (fun _ => ?_)
          · exact ⟨_, rfl, .inl ⟨rfl, _, .inl (.inl hgs5)⟩, _, rfl, put _ (k4.trans k5) hh5 hgs5 (k5.tup ht4)⟩
          · exact ⟨gs, rfl, k4.trans k5, hh5, hgs5, k5.tup ht4, by omega, hg⟩
      · rintro σ' H5 ⟨gs, rfl, k5, hh5, hgs, ht5, hlg, hg⟩
        refine ⟨_, rfl, h, c, _, rfl, hh5, by decide, by decide, fun q H6 q0 q1 k6 hh6 => ?_⟩
        have hgs6 := k6.st _ _ tho.1 hgs
        have k56 := k5.trans k6
        refine ⟨rfl, _, rfl, ?_⟩
        refine ite2 (fun _ => ?_) (fun _ => ?_)
        · refine ⟨_, rfl, _, rfl, _, rfl, h, c, d, _, es, kvs, n, rfl, hh6, ht.kp k56 dnh, hk, hn1, hn2, by decide, by decide, fun t fs2 H7 k7 hh7 ht7 hl2 hf2 => ?_⟩
          have hl2' : fs2.length ≤ 2 := by omega
          refine ⟨t, rfl, ⟨_, ht7⟩, fun D1 hD1 => ?_⟩
          have k57 := k56.trans k7
          have ht7d := ht.kp k57 dnh
          refine lc_data (K := K) (walk_tup (xs := fs2.map V.int)) (fun j => (fs2[j]?).bind fun b => if word es b = "wind" then Option.none else some (.int b)) hD1 (by rw [List.length_map]; omega) (fun H' s => sqt_same s ht7) (fun j _ z e => ?_) ?_ ?_
          · obtain ⟨y, _, e2⟩ := Option.bind_eq_some_iff.mp e
            split at e2
            · cases e2
            · cases e2
              rfl
          · rintro j v H8 H9 hj s8 ⟨rfl, e3⟩ Q1 Q0 q1 q0
            obtain ⟨y, ey, rfl⟩ := map_at e3
            obtain ⟨p, its, g1, g2, g3, _⟩ := (ht7d.same s8).get (by rw [hk]; exact hf2 y (List.mem_of_getElem? ey))
            refine ⟨rfl, ?_⟩
            refine ⟨_, rfl, _, rfl, d, _, rfl, g1, p, its, _, _, rfl, rfl, g2, g3, rfl, _, rfl, ?_⟩
            rw [decS]
            by_cases hw : word es y = "wind"
            · rw [decide_eq_true hw]
              refine iteF (q0 _ ?_ (Same.refl _))
              rw [ey]
              exact if_pos hw
            · rw [decide_eq_false hw]
              refine iteT ⟨_, rfl, q1 _ _ (.int y) ?_ (Same.refl _) (.int y)⟩
              rw [ey]
              exact if_neg hw
          · intro H8 acc s8 hacc hda
            obtain ⟨ys, rfl, e4, hys⟩ := all_ints (P := fun b => b ∈ births n) hda fun z hz => by
              obtain ⟨j, hj, e⟩ := List.mem_filterMap.mp hz
              obtain ⟨y, ey, e2⟩ := Option.bind_eq_some_iff.mp e
              split at e2
              · cases e2
              · cases e2
                exact ⟨y, rfl, hf2 y (List.mem_of_getElem? ey)⟩
            have hyl : ys.length ≤ 2 := by
              have e5 : ys.length = (ys.map PyData.int).length := (List.length_map ..).symm
              rw [e5, ← e4]
              refine Nat.le_trans (List.length_filterMap_le _ _) ?_
              rw [List.length_range, List.length_map]
              exact hl2'
            have hgs8 := s8 _ _ (k7.st _ _ tho.1 hgs6)
            have k58 := k57.trans (hh7.kh s8)
            refine ⟨o, D1, _, _, rfl, rfl, hgs8, hacc, ?_, fun p hp => ?_⟩
            · rw [List.length_map, List.length_map]
              exact Nat.le_trans (show gs.length + ys.length ≤ 100000 by omega) (by decide)
            · refine ⟨p, gs ++ ys, _, rfl, k58.trans ((hh7.same s8).kh (same_new hp)), (hh7.same s8).same (same_new hp), k58.free hp, ?_, ?_, ?_, fun z hz => ?_⟩
              · rw [upd_same, List.map_append]
              · exact sqt_same (same_new hp) (sqt_same s8 (k7.tup (k6.tup ht5)))
              · rw [List.length_append]
                omega
              · rcases List.mem_append.mp hz with q | q
                · exact hg z q
                · exact hys z q
        · exact ⟨o, gs, _, rfl, k56, hh6, ho, hgs6, k6.tup ht5, by omega, hg⟩
    · rintro σ H4 ⟨o, gs, v4, rfl, k4, hh4, ho, hgs, ht4, hlg, hg⟩
      rw [hl3] at hlg
      refine ⟨_, rfl, .inl ⟨o, _, rfl, .inl (.inl hgs), fun t1 ht1 => ?_⟩⟩
      have s5 := same_new (o := .tup (gs.map V.int)) ht1
      have k5 := k4.trans (hh4.kh s5)
      refine ⟨_, rfl, _, rfl, h, c, d, _, es, kvs, n, rfl, hh4.same s5, ht.kp k5 dnh, hk, hn1, hn2, by decide, by decide, fun t fs2 H7 k7 hh7 ht7 hl2 hf2 => ?_⟩
      refine cat_any (k7.tup (.inl (.inl upd_same))) ht7 ?_ fun t8 H8 s8 ht8 => ?_
      · rw [List.length_map, List.length_map]
        exact Nat.le_trans (show gs.length + fs2.length ≤ 100000 by omega) (by decide)
      · rw [← List.map_append] at ht8
        refine k t8 (gs ++ fs2) H8 ((k5.trans k7).trans (hh7.kh s8)) (hh7.same s8) ht8 ?_ fun z hz => ?_
        · rw [List.length_append]
          omega
        · rcases List.mem_append.mp hz with q | q
          · exact hg z q
          · exact hf2 z q
end
end K10

namespace K10
open PySem L2 Cm
/-! signs of deeds; what is left when neighbours are struck -/
def sgM (ds : List Dd) : List Int := ds.map fun d => if d.1 = ("enter" : Str) then d.2.2 else -d.2.2
def pushM : List Int → Int → List Int
  | [], x => [x]
  | y :: r, x => if y = -x then r else x :: y :: r
def negs (l : List Int) : List Int := l.map fun x => -x
def redM : List Int → List Int → List Int
  | [], bs => bs.reverse
  | a :: as, [] => negs (a :: as)
  | a :: as, b :: bs => if a = b then redM as bs else (b :: bs).reverse ++ negs (a :: as)
def pos (l : List Int) : Prop := ∀ a ∈ l, 0 < a
theorem redM_nil : ∀ as, redM as [] = negs as
  | [] => rfl
  | _ :: _ => rfl
theorem push_pos {r : List Int} {x : Int} (h : ∀ y r', r = y :: r' → 0 < y) (hx : 0 < x) : pushM r x = x :: r := by
  cases r with
  | nil => rfl
  | cons y r' =>
    have := h y r' rfl
    exact if_neg (by omega)
theorem rev_head {b : Int} {bs m r' : List Int} {y : Int} (hb : pos (b :: bs)) (e : (b :: bs).reverse ++ m = y :: r') : 0 < y := by
  have hm : y ∈ (b :: bs).reverse := by
    cases h : (b :: bs).reverse with
    | nil => simp at h
    | cons z zs =>
      rw [h] at e
      cases e
      exact List.mem_cons_self
  exact hb y (List.mem_reverse.mp hm)
theorem rev_snoc {b x : Int} {bs : List Int} : (b :: (bs ++ [x])).reverse = x :: (b :: bs).reverse := by
  have e : b :: (bs ++ [x]) = (b :: bs) ++ [x] := rfl
  rw [e, List.reverse_append]
  rfl
theorem push_in : ∀ {A Y : List Int} {x : Int}, pos A → pos Y → 0 < x → pushM (redM A Y) x = redM A (Y ++ [x])
  | [], Y, x, _, hY, hx => by
    show pushM Y.reverse x = (Y ++ [x]).reverse
    rw [List.reverse_append]
    refine push_pos (fun y r' e => ?_) hx
    exact hY y (List.mem_reverse.mp (by rw [e]; exact List.mem_cons_self))
  | a :: as, [], x, hA, _, hx => by
    show (if -a = -x then negs as else x :: -a :: negs as) = if a = x then redM as [] else [x].reverse ++ negs (a :: as)
    by_cases h : a = x
    · rw [if_pos h, if_pos (by omega), redM_nil]
    · rw [if_neg h, if_neg (by omega)]
      rfl
  | a :: as, b :: bs, x, hA, hY, hx => by
    show pushM (if a = b then redM as bs else (b :: bs).reverse ++ negs (a :: as)) x = if a = b then redM as (bs ++ [x]) else (b :: (bs ++ [x])).reverse ++ negs (a :: as)
    by_cases h : a = b
    · rw [if_pos h, if_pos h]
      exact push_in (fun z hz => hA z (List.mem_cons_of_mem _ hz)) (fun z hz => hY z (List.mem_cons_of_mem _ hz)) hx
    · rw [if_neg h, if_neg h, push_pos (fun y r' e => rev_head hY e) hx]
      rw [rev_snoc]
      rfl
theorem push_pop {r : List Int} {x : Int} : pushM (x :: r) (-x) = r := by
  show (if x = - -x then r else _) = r
  rw [if_pos (by omega)]
theorem push_out : ∀ {A Y : List Int} {x : Int}, pos A → pos Y → 0 < x → pushM (redM A (Y ++ [x])) (-x) = redM A Y
  | [], Y, x, _, _, _ => by
    show pushM (Y ++ [x]).reverse (-x) = Y.reverse
    rw [List.reverse_append]
    exact push_pop
  | a :: as, [], x, hA, _, hx => by
    show pushM (if a = x then redM as [] else [x].reverse ++ negs (a :: as)) (-x) = negs (a :: as)
    by_cases h : a = x
    · rw [if_pos h, redM_nil, h]
      cases as with
      | nil => rfl
      | cons a2 as =>
        have := hA a2 (List.mem_cons_of_mem _ List.mem_cons_self)
        show (if -a2 = - -x then negs as else -x :: -a2 :: negs as) = _
        rw [if_neg (by omega)]
        rfl
    · rw [if_neg h]
      exact push_pop
  | a :: as, b :: bs, x, hA, hY, hx => by
    show pushM (if a = b then redM as (bs ++ [x]) else (b :: (bs ++ [x])).reverse ++ negs (a :: as)) (-x) = if a = b then redM as bs else (b :: bs).reverse ++ negs (a :: as)
    by_cases h : a = b
    · rw [if_pos h, if_pos h]
      exact push_out (fun z hz => hA z (List.mem_cons_of_mem _ hz)) (fun z hz => hY z (List.mem_cons_of_mem _ hz)) hx
    · rw [if_neg h, if_neg h, rev_snoc]
      exact push_pop
theorem fold_in : ∀ {X A Q : List Int}, pos A → pos Q → pos X → X.foldl pushM (redM A Q) = redM A (Q ++ X)
  | [], A, Q, _, _, _ => by rw [List.append_nil]; rfl
  | x :: X, A, Q, hA, hQ, hX => by
    rw [List.foldl_cons, push_in hA hQ (hX x List.mem_cons_self), fold_in hA (fun z hz => ?_) fun z hz => hX z (List.mem_cons_of_mem _ hz), List.append_assoc]
    · rfl
    · rcases List.mem_append.mp hz with q | q
      · exact hQ z q
      · cases List.mem_singleton.mp q
        exact hX _ List.mem_cons_self
theorem fold_out : ∀ {X A Q : List Int}, pos A → pos Q → pos X → (negs X.reverse).foldl pushM (redM A (Q ++ X)) = redM A Q
  | [], A, Q, _, _, _ => by rw [List.append_nil]; rfl
  | x :: X, A, Q, hA, hQ, hX => by
    have e : negs (x :: X).reverse = negs X.reverse ++ [-x] := by
      unfold negs
      rw [List.reverse_cons, List.map_append]
      rfl
    have hx := hX x List.mem_cons_self
    have hQ' : pos (Q ++ [x]) := fun z hz => by
      rcases List.mem_append.mp hz with q | q
      · exact hQ z q
      · cases List.mem_singleton.mp q
        exact hx
    rw [e, List.foldl_append, show Q ++ x :: X = (Q ++ [x]) ++ X by simp, fold_out hA hQ' fun z hz => hX z (List.mem_cons_of_mem _ hz)]
    exact push_out hA hQ hx
theorem redM_self : ∀ A : List Int, redM A A = []
  | [] => rfl
  | a :: as => by
    show (if a = a then redM as as else _) = []
    rw [if_pos rfl]
    exact redM_self as
def bs (l : List (Int × Int)) : List Int := l.map (·.2)
theorem common_take : ∀ (l e : List (Int × Int)), (bs l).take (common l e) = (bs e).take (common l e)
  | [], e => by cases e <;> simp [common, bs]
  | _ :: _, [] => by simp [common, bs]
  | a :: l, b :: e => by
    unfold common
    by_cases h : a.2 = b.2
    · rw [if_pos h]
      show (a.2 :: bs l).take (common l e + 1) = (b.2 :: bs e).take (common l e + 1)
      rw [List.take_succ_cons, List.take_succ_cons, h, common_take l e]
    · rw [if_neg h]
      rfl
theorem sg_deeds (l e : List (Int × Int)) : sgM (deedsM l e) = negs ((bs l).drop (common l e)).reverse ++ (bs e).drop (common l e) := by
  unfold sgM deedsM negs bs
  rw [List.map_append, List.map_map, List.map_map, ← List.map_drop, ← List.map_drop, ← List.map_reverse, List.map_map]
  congr 1
theorem fold_deeds {A : List Int} {l e : List (Int × Int)} (hA : pos A) (hl : pos (bs l)) (he : pos (bs e)) : (sgM (deedsM l e)).foldl pushM (redM A (bs l)) = redM A (bs e) := by
  rw [sg_deeds, List.foldl_append]
  have e1 : bs l = (bs l).take (common l e) ++ (bs l).drop (common l e) := (List.take_append_drop _ _).symm
  have h1 : pos ((bs l).take (common l e)) := fun z hz => hl z (List.mem_of_mem_take hz)
  have h2 : pos ((bs l).drop (common l e)) := fun z hz => hl z (List.mem_of_mem_drop hz)
  have h3 : pos ((bs e).drop (common l e)) := fun z hz => he z (List.mem_of_mem_drop hz)
  have e2 := fold_out hA h1 h2
  rw [← e1] at e2
  rw [e2, fold_in hA h1 h3, common_take, List.take_append_drop]
theorem red_is : ∀ (l e : List (Int × Int)), redM (bs l) (bs e) = ((bs e).drop (common l e)).reverse ++ negs ((bs l).drop (common l e))
  | [], e => by
    have : common [] e = 0 := by cases e <;> rfl
    rw [this]
    show (bs e).reverse = (bs e).reverse ++ []
    rw [List.append_nil]
  | a :: l, [] => rfl
  | a :: l, b :: e => by
    show (if a.2 = b.2 then redM (bs l) (bs e) else (b.2 :: bs e).reverse ++ negs (a.2 :: bs l)) = _
    unfold common
    by_cases h : a.2 = b.2
    · rw [if_pos h, if_pos h]
      exact red_is l e
    · rw [if_neg h, if_neg h]
      rfl
theorem red_sg (l e : List (Int × Int)) : (redM (bs l) (bs e)).reverse = sgM (deedsM l e) := by
  rw [red_is, sg_deeds, List.reverse_append, List.reverse_reverse]
  congr 1
  unfold negs
  rw [List.map_reverse]
def struckM (l : List Int) : List Int := (l.foldl pushM []).reverse
end K10

namespace K10
open PySem L2 Cm
def spSigns (K : PySem.W.Frag) : Sp := fun vs H Q _ => ∃ (l : Addr) (xs : List V) (ds : List Dd), vs = [.ref l] ∧ (SqL K H l xs ∨ SqT K H l xs) ∧ DpAll K H xs (ds.map encD) ∧ ds.length ≤ 50000 ∧
  ∀ (m : Addr) (H' : Hp), Same H H' → H m = Option.none → H' m = some (.lst ((sgM ds).map V.int)) → Q (.ref m) H'
def spStruck (K : PySem.W.Frag) : Sp := fun vs H Q _ => ∃ (l : Addr) (xs : List Int), vs = [.ref l] ∧ SqL K H l (xs.map V.int) ∧ xs.length ≤ 1000000 ∧
  ∀ (m : Addr) (H' : Hp), Same H H' → H m = Option.none → H' m = some (.lst ((struckM xs).map V.int)) → Q (.ref m) H'
theorem push_len (r : List Int) (x : Int) : (pushM r x).length ≤ r.length + 1 := by
  cases r with
  | nil => exact Nat.le_refl _
  | cons y r =>
    show (if y = -x then r else x :: y :: r).length ≤ _
    by_cases h : y = -x
    · rw [if_pos h, List.length_cons]
      omega
    · rw [if_neg h]
      exact Nat.le_refl _
theorem fold_len : ∀ (l r : List Int), (l.foldl pushM r).length ≤ r.length + l.length
  | [], r => Nat.le_refl _
  | x :: l, r => by
    have := fold_len l (pushM r x)
    have := push_len r x
    rw [List.foldl_cons, List.length_cons]
    omega
theorem map_int_inj : ∀ {a b : List Int}, a.map PyData.int = b.map PyData.int → a = b
  | [], [], _ => rfl
  | [], _ :: _, h => by cases h
  | _ :: _, [], h => by cases h
  | x :: a, y :: b, h => by
    simp only [List.map_cons, List.cons.injEq, PyData.int.injEq] at h
    rw [h.1, map_int_inj h.2]
section
variable {P : Program} {w : World} {K : PySem.W.Frag} {mg : Str → Option Value} {base : Heap}
abbrev s_l_signs : Stmt := top 19
abbrev N_l_signs : List Str := ["_law_deeds_here", "_law_word", "_law_at", "_law_birth"]
theorem sc_l_signs : FnScope N_l_signs ["_law_deeds_here"] (defScope s_l_signs) := ⟨rfl, rfl, rfl, by decide +kernel, rfl, by decide +kernel, by decide +kernel⟩
theorem ok_signs (D : At K mg "_law_signs" s_l_signs ["_law_deeds_here"]) : Cl P w K mg base 1 "_law_signs" (spSigns K) := by
  refine cl_of D sc_l_signs (fun vs H Q E h => ?_) fun f cdv A outer s H vs Q E hr h => ?_
  · obtain ⟨l, xs, ds, rfl, _⟩ := h
    rfl
  · obtain ⟨l, xs, ds, rfl, hx, hd, hl, k⟩ := h
    refine ⟨_, (pss_one (ps_ret (pe_lc (own := [("_law_word", 1), ("_law_at", 2), ("_law_birth", 3)]) (g := gTup K 3 (gCons (gName 1) (gCons (gName 2) (gCons (gName 3) gNil)))) rfl sc_l_signs.nd (pi_seq (pv 0)) (blkOk_by (N := N_l_signs) (sc := defScope s_l_signs) (by decide +kernel))
      (fun _ _ _ _ _ => (pg_tup rfl (pgs_cons (pg_name (i := 1) sc_l_signs.nd rfl (Or.inl rfl)) (pgs_cons (pg_name (i := 2) sc_l_signs.nd rfl (Or.inl rfl)) (pgs_cons (pg_name (i := 3) sc_l_signs.nd rfl (Or.inl rfl)) pgs_nil)))))
      (fun _ _ _ _ _ => pts_nil)
      (fun _ _ _ _ _ => (pe_ifExp (pt_cmpR op_eq (pv 1) pe_str (nomark _)) (pv 3) (pe_un un_neg (pv 3))))))), ?_⟩
    have lx : xs.length = ds.length := by have := DpAll.len hd; rwa [List.length_map] at this
    refine ⟨_, rfl, l, rfl, ?_⟩
    rcases hx with hx | hx
    · refine .inl ⟨⟨_, hx⟩, fun D hD => ?_⟩
      refine lc_data (K := K) (walk_list (xs := xs)) (fun m => (ds[m]?).map fun q => PyData.int (if q.1 = ("enter" : Str) then q.2.2 else -q.2.2)) hD (by omega) (fun H' s => s.seq hx) (fun m _ z e => ?_) ?_ ?_
      · obtain ⟨q, _, rfl⟩ := Option.map_eq_some_iff.mp e
        rfl
      · rintro m v H0 H2 hm s1 ⟨rfl, e2⟩ Q1 Q0 q1 q0
        obtain ⟨d1, g1, g2⟩ := DpAll.atV hd e2
        obtain ⟨q, eq, rfl⟩ := map_at g1
        obtain ⟨t1, rfl, h1⟩ := dp_encD (dp_same s1 _ _ g2)
        refine ⟨t1, _, rfl, h1, rfl, _, _, rfl, _, _, rfl, _, _, rfl, rfl, rfl, ?_⟩
        refine iteT (B := Q0 H2) ⟨_, rfl, rfl, _, rfl, ?_⟩
        rw [decS]
        by_cases hw : q.1 = ("enter" : Str)
        · rw [decide_eq_true hw]
          refine iteT ⟨_, rfl, q1 _ _ (.int q.2.2) ?_ (Same.refl _) (.int _)⟩
          rw [eq]
          show some (PyData.int (if q.1 = ("enter" : Str) then q.2.2 else -q.2.2)) = _
          rw [if_pos hw]
        · rw [decide_eq_false hw]
          refine iteF ⟨_, rfl, _, rfl, q1 _ _ (.int (-q.2.2)) ?_ (Same.refl _) (.int _)⟩
          rw [eq]
          show some (PyData.int (if q.1 = ("enter" : Str) then q.2.2 else -q.2.2)) = _
          rw [if_neg hw]
      · intro H' acc s1 hacc ha
        refine k D H' s1 hD ?_
        rw [lx, range_at ds fun q => PyData.int (if q.1 = ("enter" : Str) then q.2.2 else -q.2.2)] at ha
        obtain ⟨fs, rfl, e, _⟩ := all_ints (P := fun _ => True) ha fun d hd => by
          obtain ⟨q, _, rfl⟩ := List.mem_map.mp hd
          exact ⟨_, rfl, trivial⟩
        have : fs = sgM ds := by
          have e2 : ds.map (fun q => PyData.int (if q.1 = ("enter" : Str) then q.2.2 else -q.2.2)) = (sgM ds).map PyData.int := by
            unfold sgM
            rw [List.map_map]
            rfl
          rw [e2] at e
          exact (map_int_inj e).symm
        rw [← this]
        exact hacc
    · refine .inr ⟨⟨_, hx⟩, fun D hD => ?_⟩
      refine lc_data (K := K) (walk_tup (xs := xs)) (fun m => (ds[m]?).map fun q => PyData.int (if q.1 = ("enter" : Str) then q.2.2 else -q.2.2)) hD (by omega) (fun H' s => sqt_same s hx) (fun m _ z e => ?_) ?_ ?_
      · obtain ⟨q, _, rfl⟩ := Option.map_eq_some_iff.mp e
        rfl
      · rintro m v H0 H2 hm s1 ⟨rfl, e2⟩ Q1 Q0 q1 q0
        obtain ⟨d1, g1, g2⟩ := DpAll.atV hd e2
        obtain ⟨q, eq, rfl⟩ := map_at g1
        obtain ⟨t1, rfl, h1⟩ := dp_encD (dp_same s1 _ _ g2)
        refine ⟨t1, _, rfl, h1, rfl, _, _, rfl, _, _, rfl, _, _, rfl, rfl, rfl, ?_⟩
        refine iteT (B := Q0 H2) ⟨_, rfl, rfl, _, rfl, ?_⟩
        rw [decS]
        by_cases hw : q.1 = ("enter" : Str)
        · rw [decide_eq_true hw]
          refine iteT ⟨_, rfl, q1 _ _ (.int q.2.2) ?_ (Same.refl _) (.int _)⟩
          rw [eq]
          show some (PyData.int (if q.1 = ("enter" : Str) then q.2.2 else -q.2.2)) = _
          rw [if_pos hw]
        · rw [decide_eq_false hw]
          refine iteF ⟨_, rfl, _, rfl, q1 _ _ (.int (-q.2.2)) ?_ (Same.refl _) (.int _)⟩
          rw [eq]
          show some (PyData.int (if q.1 = ("enter" : Str) then q.2.2 else -q.2.2)) = _
          rw [if_neg hw]
      · intro H' acc s1 hacc ha
        refine k D H' s1 hD ?_
        rw [lx, range_at ds fun q => PyData.int (if q.1 = ("enter" : Str) then q.2.2 else -q.2.2)] at ha
        obtain ⟨fs, rfl, e, _⟩ := all_ints (P := fun _ => True) ha fun d hd => by
          obtain ⟨q, _, rfl⟩ := List.mem_map.mp hd
          exact ⟨_, rfl, trivial⟩
        have : fs = sgM ds := by
          have e2 : ds.map (fun q => PyData.int (if q.1 = ("enter" : Str) then q.2.2 else -q.2.2)) = (sgM ds).map PyData.int := by
            unfold sgM
            rw [List.map_map]
            rfl
          rw [e2] at e
          exact (map_int_inj e).symm
        rw [← this]
        exact hacc
abbrev s_l_struck : Stmt := top 20
abbrev N_l_struck : List Str := ["_law_signs_here", "_law_left", "_law_sign"]
theorem sc_l_struck : FnScope N_l_struck ["_law_signs_here"] (defScope s_l_struck) := ⟨rfl, rfl, rfl, by decide +kernel, rfl, by decide +kernel, by decide +kernel⟩
theorem ok_struck (D : At K mg "_law_struck" s_l_struck ["_law_signs_here"]) : Cl P w K mg base 1 "_law_struck" (spStruck K) := by
  refine cl_of D sc_l_struck (fun vs H Q E h => ?_) fun f cdv A outer s H vs Q E hr h => ?_
  · obtain ⟨l, xs, rfl, _⟩ := h
    rfl
  · obtain ⟨l, xs, rfl, hx, hl, k⟩ := h
    refine ⟨_, (pss_cons (ps_set (i := 1) sc_l_struck.nd rfl (Or.inl rfl) (pe_lst pa_nil))
      (pss_cons (ps_for PassesOwn.never rfl (pi_list (pv 0)) (pg_name (i := 2) sc_l_struck.nd rfl (Or.inl rfl))
        (pss_one (ps_if (PW.pt (pw_and (pt_cmpR (op_neD hr.units) (pv 1) (pe_lst pa_nil) (nomark _)) (pw_and1 (pt_cmpR op_eq (pe_ix ix_list (pv 1) (pe_un un_neg pe_int) (fun _ _ => rfl)) (pe_un un_neg (pv 2)) (nomark _)))))
          (pss_one (ps_expr (pe_bm0 PySem.F.plainAttrs_list PySem.F.slot_list_pop PySem.F.type_list_pop mt_pop (pv 1))))
          (pss_one (ps_expr (pe_bm PySem.F.plainAttrs_list PySem.F.slot_list_append PySem.F.type_list_append mt_append (pv 1) (pa_cons (pv 2) pa_nil)))))))
      (pss_one (ps_ret (pv 1))))), ?_⟩
    refine ⟨Nat.zero_le _, fun o ho => ?_⟩
    have s0 := same_new (o := .lst []) ho
    refine ⟨_, rfl, l, rfl, ⟨_, s0.seq hx⟩, ?_⟩
    refine for_it (walk_list (xs := xs.map V.int)) (fun i σ H' => ∃ v2 : Option V, σ = [some (.ref l), some (.ref o), v2] ∧ Same H H' ∧ H' o = some (.lst ((((xs.take i).foldl pushM []).reverse).map V.int)))
      ⟨Option.none, rfl, s0, upd_same⟩ (fun i σ H' _ z => ?_) ?_ ?_
    · obtain ⟨_, _, s1, _⟩ := z
      exact s1.seq hx
    · rintro i x σ H0 H1 hi ⟨v2, rfl, s1, h1⟩ ⟨rfl, e2⟩
      obtain ⟨z, ez, rfl⟩ := map_at e2
      have et : (xs.take (i + 1)).foldl pushM [] = pushM ((xs.take i).foldl pushM []) z := by
        rw [List.take_add_one, ez, List.foldl_append]
        rfl
      have hlen : ((xs.take i).foldl pushM []).length ≤ 1000000 := by
        have := fold_len (xs.take i) []
        have : (xs.take i).length ≤ xs.length := by rw [List.length_take]; omega
        simp only [List.length_nil] at *
        omega
      generalize (xs.take i).foldl pushM [] = r at h1 et hlen
      have app : ∀ H2 : Hp, Same H H2 → H2 o = some (.lst (r.reverse.map V.int)) → pushM r z = z :: r →
          (∃ ws ys y, V.ref o = V.ref ws ∧ [V.int z] = [y] ∧ H2 ws = some (.lst ys) ∧ ys.length < sizeLine ∧
            ∃ v2 : Option V, [some (V.ref l), some (.ref o), some (.int z)] = [some (V.ref l), some (.ref o), v2] ∧ Same H (upd H2 ws (.lst (ys ++ [y]))) ∧ (upd H2 ws (.lst (ys ++ [y]))) o = some (.lst ((((xs.take (i + 1)).foldl pushM []).reverse).map V.int))) := by
        intro H2 s2 h2 ep
        refine ⟨o, _, _, rfl, rfl, h2, ?_, _, rfl, same_put s2 ho, ?_⟩
        · rw [List.length_map, List.length_reverse]
          exact Nat.lt_of_le_of_lt hlen (by decide)
        · rw [upd_same, et, ep, List.reverse_cons, List.map_append]
          rfl
      refine ⟨_, rfl, Nat.zero_le _, fun q hq => ?_⟩
      have sq := same_new (o := .lst []) hq
      refine ⟨_, _, .lst (.inl (.inl (sq _ _ h1))) (dpAll_ints _), .lst (.inl (.inl upd_same)) .nil, PySem.W.shaped_ints _, by decide +kernel, _, rfl, ?_⟩
      cases r with
      | nil =>
        refine iteF (iteF ?_)
        exact ⟨_, rfl, .inl ⟨rfl, _, .inl (.inl (sq _ _ h1))⟩, _, rfl, app _ (s1.trans sq) (sq _ _ h1) rfl⟩
      | cons y r' =>
        have ey : (y :: r').reverse = r'.reverse ++ [y] := List.reverse_cons
        have ev : (!PyData.eqv (.list ((y :: r').reverse.map PyData.int)) (.list [])) = true := by
          rw [ey, List.map_append]
          cases r'.reverse.map PyData.int <;> rfl
        rw [ev]
        refine iteT ?_
        refine ⟨_, rfl, _, rfl, o, _, _, .int y, rfl, rfl, .inl (.inl (sq _ _ h1)), ?_, _, rfl, _, rfl, rfl, _, rfl, ?_⟩
        · rw [ey, List.map_append]
          exact atI_last _ _
        · by_cases hy : y = -z
          · rw [show decide (V.int y = V.int (-z)) = true by rw [hy]; simp]
            refine iteT ?_
            refine ⟨_, rfl, .inl ⟨rfl, _, .inl (.inl (sq _ _ h1))⟩, o, _, .int y, rfl, rfl, sq _ _ h1, ?_, ?_⟩
            · rw [ey, List.map_append, List.length_append]
              simp
            · refine ⟨_, rfl, same_put (s1.trans sq) ho, ?_⟩
              rw [upd_same, et, ey, List.map_append]
              show some (HO.lst (r'.reverse.map V.int ++ [V.int y]).dropLast) = some (.lst (((if y = -z then r' else z :: y :: r').reverse).map V.int))
              rw [if_pos hy, List.dropLast_concat]
          · rw [show decide (V.int y = V.int (-z)) = false by exact decide_eq_false fun e => hy (V.int.inj e)]
            refine iteF ?_
            exact ⟨_, rfl, .inl ⟨rfl, _, .inl (.inl (sq _ _ h1))⟩, _, rfl, app _ (s1.trans sq) (sq _ _ h1) (if_neg hy)⟩
    · rintro σ H1 ⟨v2, rfl, s1, h1⟩
      rw [List.length_map, List.take_length] at h1
      exact ⟨_, rfl, k o H1 s1 ho h1⟩
end
end K10

namespace K10
open PySem L2 Cm
/-! winds of beginnings of rows; the steps of a way -/
def windsF (es : Things) : Nat → List Int → List (Int × Int)
  | _, [] => []
  | k, b :: r => (if word es b = "wind" then [((k : Int), b)] else []) ++ windsF es (k + 1) r
theorem windsF_is (es : Things) : ∀ (fs : List Int) (k : Nat), (List.range fs.length).filterMap (fun i => (fs[i]?).bind fun b => if word es b = "wind" then some (((k + i : Nat) : Int), b) else Option.none) = windsF es k fs
  | [], _ => rfl
  | b :: r, k => by
    rw [List.length_cons, List.range_succ_eq_map, List.filterMap_cons, List.filterMap_map]
    have ih := windsF_is es r (k + 1)
    have e : ((fun i => ((b :: r)[i]?).bind fun b => if word es b = "wind" then some (((k + i : Nat) : Int), b) else Option.none) ∘ Nat.succ) = fun i => (r[i]?).bind fun b => if word es b = "wind" then some (((k + 1 + i : Nat) : Int), b) else Option.none := by
      funext i
      show (r[i]?).bind _ = (r[i]?).bind _
      have : k + Nat.succ i = k + 1 + i := by omega
      rw [this]
    rw [e, ih, List.getElem?_cons_zero, Option.bind_some]
    rw [show windsF es k (b :: r) = (if word es b = "wind" then [((k : Int), b)] else []) ++ windsF es (k + 1) r from rfl]
    by_cases h : word es b = "wind"
    · rw [if_pos h, if_pos h]
      rfl
    · rw [if_neg h, if_neg h]
      rfl
theorem winds_F (es : Things) (fs : List Int) : winds es fs = windsF es 0 fs := by
  rw [← windsF_is es fs 0]
  unfold winds windR
  congr 1
  funext i
  have : 0 + i = i := by omega
  rw [this]
theorem windsF_app (es : Things) : ∀ (xs ys : List Int) (k : Nat), windsF es k (xs ++ ys) = windsF es k xs ++ windsF es (k + xs.length) ys
  | [], ys, k => rfl
  | x :: xs, ys, k => by
    show _ ++ windsF es (k + 1) (xs ++ ys) = (_ ++ windsF es (k + 1) xs) ++ windsF es (k + (xs.length + 1)) ys
    rw [windsF_app es xs ys (k + 1), List.append_assoc, show k + 1 + xs.length = k + (xs.length + 1) by omega]
theorem windsF_mem (es : Things) : ∀ (fs : List Int) (k : Nat) (p : Int × Int), p ∈ windsF es k fs → ∃ i, i < fs.length ∧ p.1 = ((k + i : Nat) : Int) ∧ fs[i]? = some p.2 ∧ word es p.2 = "wind"
  | [], _, _, h => by cases h
  | b :: r, k, p, h => by
    rcases List.mem_append.mp h with q | q
    · by_cases hw : word es b = "wind"
      · rw [if_pos hw] at q
        cases List.mem_singleton.mp q
        exact ⟨0, by simp, rfl, rfl, hw⟩
      · rw [if_neg hw] at q
        cases q
    · obtain ⟨i, h1, h2, h3, h4⟩ := windsF_mem es r (k + 1) p q
      exact ⟨i + 1, by rw [List.length_cons]; omega, by rw [h2]; omega, h3, h4⟩
theorem wind_at {es : Things} {fs : List Int} {j : Nat} {p : Int × Int} (h : (winds es fs)[j]? = some p) :
    ∃ m : Nat, p.1 = (m : Int) ∧ m < fs.length ∧ fs[m]? = some p.2 ∧ word es p.2 = "wind" ∧ winds es (fs.take m) = (winds es fs).take j ∧ winds es (fs.take (m + 1)) = (winds es fs).take (j + 1) := by
  rw [winds_F] at h
  obtain ⟨m, h1, h2, h3, h4⟩ := windsF_mem es fs 0 p (List.mem_of_getElem? h)
  rw [Nat.zero_add] at h2
  have hm : fs[m] = p.2 := by
    rw [List.getElem?_eq_getElem h1] at h3
    exact Option.some.inj h3
  have e1 : fs = fs.take m ++ fs.drop m := (List.take_append_drop m fs).symm
  have e2 : fs.drop m = p.2 :: fs.drop (m + 1) := by
    rw [List.drop_eq_getElem_cons h1, hm]
  have lt : (fs.take m).length = m := by rw [List.length_take]; omega
  have split : windsF es 0 fs = windsF es 0 (fs.take m) ++ (p :: windsF es (m + 1) (fs.drop (m + 1))) := by
    conv => lhs; rw [e1, windsF_app, lt, e2]
    rw [Nat.zero_add]
    show _ ++ ((if word es p.2 = "wind" then [((m : Int), p.2)] else []) ++ _) = _
    rw [if_pos h4, ← h2]
    rfl
  have hj : j = (windsF es 0 (fs.take m)).length := by
    rcases Nat.lt_trichotomy j (windsF es 0 (fs.take m)).length with q | q | q
    · rw [split, List.getElem?_append_left q] at h
      obtain ⟨i, g1, g2, _, _⟩ := windsF_mem es _ 0 p (List.mem_of_getElem? h)
      rw [lt] at g1
      omega
    · exact q
    · rw [split, List.getElem?_append_right (by omega)] at h
      obtain ⟨n, hn⟩ : ∃ n, j - (windsF es 0 (fs.take m)).length = n + 1 := ⟨j - (windsF es 0 (fs.take m)).length - 1, by omega⟩
      rw [hn, List.getElem?_cons_succ] at h
      obtain ⟨i, g1, g2, _, _⟩ := windsF_mem es _ (m + 1) p (List.mem_of_getElem? h)
      omega
  refine ⟨m, h2, h1, h3, h4, ?_, ?_⟩
  · rw [winds_F, winds_F, split, hj, List.take_left]
  · have e3 : fs.take (m + 1) = fs.take m ++ [p.2] := by
      rw [List.take_add_one, h3]
      rfl
    rw [winds_F, winds_F, e3, windsF_app, lt, split, hj]
    have e4 : windsF es (0 + m) [p.2] = [p] := by
      show (if word es p.2 = "wind" then [(((0 + m : Nat) : Int), p.2)] else []) ++ [] = [p]
      rw [if_pos h4, Nat.zero_add, ← h2]
      rfl
    rw [e4, List.take_length_add_append]
    rfl
def encF (fs : List Int) : PyData := .tuple (fs.map PyData.int)
def roadD (goal : List Int) (n : Int) : PyData := .tuple [.str "to", encF goal, .int n]
def stepD (w : Str) (deed : Int) (fs goal : List Int) (n : Int) : PyData := .tuple [.str w, .int deed, encF fs, roadD goal n]
def arriveD (fs : List Int) : PyData := .tuple [.str "arrive", .none, encF fs, .none]
/-- where a way stands -/
def presM (es : Things) (below goal : List Int) (n : Nat) : List Int := if n = 0 then below else goal.take ((((winds es goal)[n - 1]?).getD (0, 0)).1.toNat + 1)
def toStep (es : Things) (pres goal : List Int) : PyData :=
  match deedsM (winds es pres) (winds es goal) with
  | [] => arriveD goal
  | d :: _ => if d.1 = ("leave" : Str) then stepD "leave" (2000 + d.2.2) (pres.take d.2.1.toNat) goal 0 else stepD "enter" (1000 + d.2.2) (goal.take d.2.1.toNat) goal ((winds es (goal.take d.2.1.toNat)).length + 1 : Nat)
/-- the step behind the first j enters -/
def sE (es : Things) (goal : List Int) (j : Nat) : PyData :=
  match (winds es goal)[j]? with
  | Option.none => arriveD goal
  | some p => stepD "enter" (1000 + p.2) (goal.take p.1.toNat) goal (j + 1 : Nat)
/-- the step where m winds of the present still stand -/
def sL (es : Things) (present goal : List Int) (m : Nat) : PyData :=
  if common (winds es present) (winds es goal) < m then stepD "leave" (2000 + (((winds es present)[m - 1]?).getD (0, 0)).2) (present.take (((winds es present)[m - 1]?).getD (0, 0)).1.toNat) goal 0
  else sE es goal (common (winds es present) (winds es goal))
theorem common_cut : ∀ (l e : List (Int × Int)) (m : Nat), common l e ≤ m → common (l.take m) e = common l e
  | [], e, m, _ => by rw [List.take_nil]
  | a :: l, [], m, _ => by cases m <;> rfl
  | a :: l, b :: e, 0, h => by
    have : common (a :: l) (b :: e) = 0 := by omega
    rw [this, List.take_zero]
    rfl
  | a :: l, b :: e, m + 1, h => by
    rw [List.take_succ_cons]
    unfold common at h ⊢
    by_cases q : a.2 = b.2
    · rw [if_pos q] at h ⊢
      rw [if_pos q, common_cut l e m (by omega)]
    · rw [if_neg q, if_neg q]
theorem common_pre : ∀ (e : List (Int × Int)) (m : Nat), common (e.take m) e = (e.take m).length
  | [], m => by rw [List.take_nil]; rfl
  | b :: e, 0 => rfl
  | b :: e, m + 1 => by
    rw [List.take_succ_cons]
    unfold common
    rw [if_pos rfl, common_pre e m, List.length_cons]
theorem enter_step (es : Things) {pres goal : List Int} {l : List (Int × Int)} (hw : winds es pres = l) (hl : l.length ≤ common l (winds es goal)) : toStep es pres goal = sE es goal (common l (winds es goal)) := by
  unfold toStep sE
  rw [hw]
  have e : deedsM l (winds es goal) = ((winds es goal).drop (common l (winds es goal))).map fun p => (("enter" : Str), p.1, p.2) := by
    unfold deedsM
    rw [List.drop_eq_nil_of_le hl]
    rfl
  rw [e]
  cases h : (winds es goal)[common l (winds es goal)]? with
  | none =>
    rw [List.drop_eq_nil_of_le (by rw [List.getElem?_eq_none_iff] at h; exact h)]
    rfl
  | some p =>
    obtain ⟨hlt, hp⟩ := List.getElem?_eq_some_iff.mp h
    rw [List.drop_eq_getElem_cons hlt, hp]
    obtain ⟨m, e1, _, _, _, e5, _⟩ := wind_at h
    show (if ("enter" : Str) = "leave" then _ else stepD "enter" (1000 + p.2) (goal.take p.1.toNat) goal ((winds es (goal.take p.1.toNat)).length + 1 : Nat)) = _
    rw [if_neg (by decide +kernel)]
    show _ = stepD "enter" (1000 + p.2) (goal.take p.1.toNat) goal (common l (winds es goal) + 1 : Nat)
    rw [e1, show ((m : Int)).toNat = m from rfl, e5, List.length_take, Nat.min_eq_left (by omega)]
theorem leave_step (es : Things) {present goal : List Int} {k m : Nat} (hw : winds es (present.take k) = (winds es present).take m) (hc : common (winds es present) (winds es goal) ≤ m) (hm : m ≤ (winds es present).length)
    (hk : ∀ p, (winds es present)[m - 1]? = some p → 0 < m → p.1.toNat ≤ k) : toStep es (present.take k) goal = sL es present goal m := by
  unfold sL
  have ec := common_cut (winds es present) (winds es goal) m hc
  have hlen : ((winds es present).take m).length = m := by rw [List.length_take]; omega
  by_cases h : common (winds es present) (winds es goal) < m
  · rw [if_pos h]
    obtain ⟨n, rfl⟩ : ∃ n, m = n + 1 := ⟨m - 1, by omega⟩
    have hlt : n < (winds es present).length := by omega
    have hp : (winds es present)[n + 1 - 1]? = some (winds es present)[n] := List.getElem?_eq_getElem hlt
    have e : deedsM ((winds es present).take (n + 1)) (winds es goal) = (("leave" : Str), (winds es present)[n].1, (winds es present)[n].2) :: ((((winds es present).take n).drop (common (winds es present) (winds es goal))).reverse.map (fun p => (("leave" : Str), p.1, p.2)) ++ ((winds es goal).drop (common (winds es present) (winds es goal))).map fun p => (("enter" : Str), p.1, p.2)) := by
      unfold deedsM
      rw [ec, List.take_add_one, List.getElem?_eq_getElem hlt, List.drop_append_of_le_length (by rw [List.length_take]; omega), List.reverse_append]
      rfl
    unfold toStep
    rw [hw, e]
    show (if ("leave" : Str) = "leave" then stepD "leave" (2000 + (winds es present)[n].2) ((present.take k).take (winds es present)[n].1.toNat) goal 0 else _) = _
    have hk' := hk _ hp (by omega)
    rw [if_pos rfl, hp, List.take_take, Nat.min_eq_left hk']
    rfl
  · rw [if_neg h]
    have hm' : m = common (winds es present) (winds es goal) := by omega
    rw [enter_step es hw (by rw [ec, hlen]; omega), ec]
theorem enter_next (es : Things) {goal : List Int} {below : List Int} {j : Nat} (hj : j < (winds es goal).length) : toStep es (presM es below goal (j + 1)) goal = sE es goal (j + 1) := by
  have h : (winds es goal)[j]? = some (winds es goal)[j] := List.getElem?_eq_getElem hj
  obtain ⟨m, e1, _, _, _, _, e6⟩ := wind_at h
  have ep : presM es below goal (j + 1) = goal.take (m + 1) := by
    unfold presM
    rw [if_neg (by omega), show j + 1 - 1 = j from rfl, h]
    show goal.take ((winds es goal)[j].1.toNat + 1) = _
    rw [e1]
    rfl
  have ec := common_pre (winds es goal) (j + 1)
  have el : ((winds es goal).take (j + 1)).length = j + 1 := by rw [List.length_take]; omega
  rw [ep, enter_step es e6 (by rw [ec]; exact Nat.le_refl _), ec, el]
end K10

namespace K10
open PySem L2 Cm
theorem th_windAt {K : PySem.W.Frag} {H : Hp} {d : Addr} {es : Things} {kvs : List (Key × V)} {b : Int} (x : ThAt K H d es kvs) (m : b ∈ es.map (·.1)) (hw : word es b = "wind") :
    ∃ p : Addr, DGet H d (.int b) (some (.ref p)) ∧ SqT K H p [.str "wind", .int (1000 + b), .int (2000 + b)] := by
  obtain ⟨p, its, g1, _, _, g4, g5⟩ := x.get m
  rw [g5.wn hw] at g4
  refine ⟨p, g1, ?_⟩
  unfold windD at g4
  cases g4 with
  | tup hs ha =>
    cases ha with
    | cons a1 ha =>
      cases ha with
      | cons a2 ha =>
        cases ha with
        | cons a3 ha =>
          cases ha
          cases a1
          cases a2
          cases a3
          exact hs
theorem dp_encF {K : PySem.W.Frag} {H : Hp} {a : Addr} {fs : List Int} (h : SqT K H a (fs.map V.int)) : Dp K H (.ref a) (encF fs) := .tup h (dpAll_ints fs)
theorem deeds_mem {l e : List (Int × Int)} {q : Dd} (h : q ∈ deedsM l e) : (∃ p ∈ l, q = (("leave" : Str), p.1, p.2)) ∨ (∃ p ∈ e, q = (("enter" : Str), p.1, p.2)) := by
  unfold deedsM at h
  rcases List.mem_append.mp h with h | h
  · obtain ⟨p, hp, rfl⟩ := List.mem_map.mp h
    exact .inl ⟨p, List.mem_of_mem_drop (List.mem_reverse.mp hp), rfl⟩
  · obtain ⟨p, hp, rfl⟩ := List.mem_map.mp h
    exact .inr ⟨p, List.mem_of_mem_drop hp, rfl⟩
def spStepTo (K : PySem.W.Frag) : Sp := fun vs H Q _ => ∃ (a b d : Addr) (below goal : List Int) (es : Things) (kvs : List (Key × V)) (n : Nat), vs = [.ref a, .ref b, .int (n : Nat), .ref d] ∧ Fr K H a d below es kvs ∧ Fr K H b d goal es kvs ∧ n ≤ (winds es goal).length ∧
  ∀ (v : V) (H' : Hp), Same H H' → Dp K H' v (toStep es (presM es below goal n) goal) → Q v H'
section
variable {P : Program} {w : World} {K : PySem.W.Frag} {mg : Str → Option Value} {base : Heap}
abbrev s_p_step_to : Stmt := top 7
abbrev N_p_step_to : List Str := ["below", "frames", "number", "things", "present", "deeds", "word", "position", "birth", "entered"]
theorem sc_p_step_to : FnScope N_p_step_to ["below", "frames", "number", "things"] (defScope s_p_step_to) := ⟨rfl, rfl, rfl, by decide +kernel, rfl, by decide +kernel, by decide +kernel⟩
theorem ok_step_to (T : Txt mg) (c_p_winds_of : Cl P w K mg base 1 "winds_of" (spWindsT K)) (c_p_deeds_of_way : Cl P w K mg base 2 "deeds_of_way" (spDeeds K)) (D : At K mg "_step_to" s_p_step_to ["below", "frames", "number", "things"]) : Cl P w K mg base 3 "_step_to" (spStepTo K) := by
  refine cl_of D sc_p_step_to (fun vs H Q E h => ?_) fun f cdv A outer s H vs Q E hr h => ?_
  · obtain ⟨a, b, d, below, goal, es, kvs, n, rfl, _⟩ := h
    rfl
  · obtain ⟨a, b, d, below, goal, es, kvs, n, rfl, hb, hg, hn, k⟩ := h
    have hu := hu_of hr
    refine ⟨_, (pss_cons (ps_set (i := 4) sc_p_step_to.nd rfl (Or.inl rfl) (pv 0))
      (pss_mid (ps_if (pt_cmpR op_gt (pv 2) pe_int (nomark _))
        (pss_one (ps_set (i := 4) sc_p_step_to.nd rfl (Or.inl rfl) (pe_slice sl_tupA (pv 1) po_none (po_some (pe_op op_add (pe_ix ix_tup (pe_ix ix_tup (pe_c c_p_winds_of hr (by decide) (by rfl) (pa_cons (pv 1) (pa_cons (pv 3) pa_nil))) (pe_op op_sub (pv 2) pe_int) (fun _ _ => rfl)) pe_int (fun _ _ => rfl)) pe_int)))))
        pss_nil)
      (pss_cons (ps_set (i := 5) sc_p_step_to.nd rfl (Or.inl rfl) (pe_c c_p_deeds_of_way hr (by decide) (by rfl) (pa_cons (pv 4) (pa_cons (pv 1) (pa_cons (pv 3) pa_nil)))))
      (pss_cons (ps_if (pt_not (pt_truth (pv 5) (by intro _; rfl)))
        (pss_one (ps_ret (pe_tup (pa_cons pe_str (pa_cons pe_non (pa_cons (pv 1) (pa_cons pe_non pa_nil)))))))
        pss_nil)
      (pss_cons (ps_asg (pe_ix ix_tup (pv 5) pe_int (fun _ _ => rfl)) (pg_tup (by rfl) (pgs_cons (pg_name (i := 6) sc_p_step_to.nd rfl (Or.inl rfl)) (pgs_cons (pg_name (i := 7) sc_p_step_to.nd rfl (Or.inl rfl)) (pgs_cons (pg_name (i := 8) sc_p_step_to.nd rfl (Or.inl rfl)) pgs_nil)))))
      (pss_cons (ps_if (pt_cmpR op_eq (pv 6) pe_str (nomark _))
        (pss_one (ps_ret (pe_tup (pa_cons (pv 6) (pa_cons (pe_ix ix_tup (pe_dget hu (pv 3) (pv 8) (fun _ _ => rfl)) pe_int (fun _ _ => rfl)) (pa_cons (pe_slice sl_tupA (pv 4) po_none (po_some (pv 7))) (pa_cons (pe_tup (pa_cons pe_str (pa_cons (pv 1) (pa_cons pe_int pa_nil)))) pa_nil)))))))
        pss_nil)
      (pss_cons (ps_set (i := 9) sc_p_step_to.nd rfl (Or.inl rfl) (pe_op op_add (pe_callB call_len_seq (by rfl) T.len (by decide +kernel) (pa_cons (pe_c c_p_winds_of hr (by decide) (by rfl) (pa_cons (pe_slice sl_tupA (pv 1) po_none (po_some (pv 7))) (pa_cons (pv 3) pa_nil))) pa_nil)) pe_int))
      (pss_one (ps_ret (pe_tup (pa_cons (pv 6) (pa_cons (pe_ix ix_tup (pe_dget hu (pv 3) (pv 8) (fun _ _ => rfl)) pe_int (fun _ _ => rfl)) (pa_cons (pe_slice sl_tupA (pv 1) po_none (po_some (pv 7))) (pa_cons (pe_tup (pa_cons pe_str (pa_cons (pv 1) (pa_cons (pv 9) pa_nil)))) pa_nil)))))))))))))), ?_⟩
    have wl := winds_len es goal
    have gl := hg.len
    refine ⟨_, rfl, ?_⟩
    refine ⟨fun σ' H' => ∃ (p : Addr), σ' = [some (.ref a), some (.ref b), some (.int (n : Nat)), some (.ref d), some (.ref p), none, none, none, none, none] ∧ Same H H' ∧ Fr K H' p d (presM es below goal n) es kvs, ?_, ?_⟩
    · refine ⟨_, rfl, _, _, rfl, rfl, _, rfl, ?_⟩
      by_cases h0 : n = 0
      · subst h0
        refine iteF ⟨a, rfl, Same.refl H, ?_⟩
        exact hb
      · rw [show decide ((0 : Int) < ((n : Nat) : Int)) = true from decide_eq_true (by omega)]
        refine iteT ?_
        obtain ⟨j, rfl⟩ : ∃ j, n = j + 1 := ⟨n - 1, by omega⟩
        have hj : j < (winds es goal).length := hn
        have hp : (winds es goal)[j]? = some (winds es goal)[j] := List.getElem?_eq_getElem hj
        obtain ⟨m, e1, e2, _, _, _, _⟩ := wind_at hp
        have ep : presM es below goal (j + 1) = goal.take (m + 1) := by
          unfold presM
          rw [if_neg (by omega), show j + 1 - 1 = j from rfl, hp]
          show goal.take ((winds es goal)[j].1.toNat + 1) = _
          rw [e1]
          rfl
        refine ⟨_, rfl, _, rfl, _, rfl, b, d, goal, es, kvs, rfl, hg, fun t xs H1 s1 ht hd => ?_⟩
        obtain ⟨v, g1, g2⟩ := DpAll.at hd (show ((winds es goal).map encP)[j]? = some (encP (winds es goal)[j]) by rw [List.getElem?_map, hp]; rfl)
        obtain ⟨u, rfl, hu1⟩ := dp_enc g2
        refine ⟨_, rfl, _, _, rfl, rfl, t, xs, _, _, rfl, rfl, ht, by rw [show ((j + 1 : Nat) : Int) - 1 = (j : Int) by omega]; exact atI_nat g1, u, _, _, _, rfl, rfl, hu1, rfl, _, _, rfl, rfl, ?_⟩
        rw [e1]
        refine ⟨_, rfl, ?_⟩
        refine sl_to (k := m + 1) (sqt_same s1 hg.fr) (by rw [List.length_map]; omega) fun p H2 s2 hp2 => ?_
        rw [← List.map_take] at hp2
        refine ⟨p, rfl, s1.trans s2, ?_⟩
        rw [ep]
        exact ⟨hp2, hg.th.same (s1.trans s2), fun z hz => hg.ins z (List.mem_of_mem_take hz), by rw [List.length_take]; omega⟩
    · rintro σ' H1 ⟨p, rfl, s1, hp⟩
      generalize presM es below goal n = pres at hp k
      have hg1 := hg.same s1
      refine ⟨_, rfl, _, rfl, _, rfl, p, b, d, pres, goal, es, kvs, rfl, hp, hg1, fun t xs H2 s2 ht hd => ?_⟩
      refine ⟨_, rfl, !xs.isEmpty, .inr (.inl ⟨xs, ht, rfl⟩), ?_⟩
      have s12 := s1.trans s2
      unfold toStep at k
      cases hD : deedsM (winds es pres) (winds es goal) with
      | nil =>
        rw [hD] at hd k
        cases hd
        refine iteT ⟨_, rfl, by show 4 ≤ sizeLine; decide, fun t2 ht2 => ?_⟩
        have s3 := same_new (o := .tup [.str "arrive", .non, .ref b, .non]) ht2
        exact k _ _ (s12.trans s3) (.tup (.inl (.inl upd_same)) (.cons (.str _) (.cons .non (.cons (dp_encF (sqt_same (s2.trans s3) hg1.fr)) (.cons .non .nil)))))
      | cons q r =>
        have hq : q ∈ deedsM (winds es pres) (winds es goal) := by rw [hD]; exact List.mem_cons_self
        rw [hD] at hd k
        cases hd with
        | @cons v xs' _ _ g1 g2 =>
          obtain ⟨u, rfl, hu1⟩ := dp_encD g1
          refine iteF ⟨_, rfl, t, _, _, _, rfl, rfl, ht, atI_nat (j := 0) rfl, u, _, rfl, hu1, rfl, _, _, rfl, _, _, rfl, _, _, rfl, rfl, ?_⟩
          refine ⟨_, rfl, rfl, _, rfl, ?_⟩
          rw [decS]
          rcases deeds_mem hq with ⟨⟨p1, b2⟩, hp2, rfl⟩ | ⟨⟨p1, b2⟩, hp2, rfl⟩
          · obtain ⟨j, hj⟩ := List.getElem?_of_mem hp2
            obtain ⟨m, e1, e2, e3, e4, _, _⟩ := wind_at hj
            cases (show p1 = (m : Int) from e1)
            have hin : b2 ∈ es.map (·.1) := hp.ins _ (List.mem_of_getElem? e3)
            obtain ⟨pw, gx, hpw⟩ := th_windAt (hp.th.same s2) hin e4
            rw [decide_eq_true rfl]
            refine iteT ⟨_, rfl, _, rfl, _, rfl, d, _, rfl, gx, pw, _, _, _, rfl, rfl, hpw, rfl, _, rfl, _, rfl, _, rfl, ?_⟩
            refine sl_to (k := m) (sqt_same s2 hp.fr) (by rw [List.length_map]; omega) fun t3 H3 s3 ht3 => ?_
            rw [← List.map_take] at ht3
            refine ⟨_, rfl, by show 3 ≤ sizeLine; decide, fun t4 ht4 => ⟨by show 4 ≤ sizeLine; decide, fun t5 ht5 => ?_⟩⟩
            have s4 := same_new (o := .tup [.str "to", .ref b, .int 0]) ht4
            have s5 := same_new (o := .tup [.str "leave", .int (2000 + b2), .ref t3, .ref t4]) ht5
            exact k _ _ (((s12.trans s3).trans s4).trans s5) (.tup (.inl (.inl upd_same)) (.cons (.str _) (.cons (.int _) (.cons (dp_encF (sqt_same (s4.trans s5) ht3))
              (.cons (.tup (.inl (.inl (s5 _ _ upd_same))) (.cons (.str _) (.cons (dp_encF (sqt_same (((s2.trans s3).trans s4).trans s5) hg1.fr)) (.cons (.int _) .nil)))) .nil)))))
          · obtain ⟨j, hj⟩ := List.getElem?_of_mem hp2
            obtain ⟨m, e1, e2, e3, e4, _, _⟩ := wind_at hj
            cases (show p1 = (m : Int) from e1)
            have hin : b2 ∈ es.map (·.1) := hg.ins _ (List.mem_of_getElem? e3)
            rw [decide_eq_false (show ¬ ("enter" : Str) = "leave" by decide +kernel)]
            refine iteF ⟨_, rfl, _, rfl, _, rfl, ?_⟩
            refine sl_to (k := m) (sqt_same s2 hg1.fr) (by rw [List.length_map]; omega) fun t3 H3 s3 ht3 => ?_
            rw [← List.map_take] at ht3
            have s13 := s12.trans s3
            refine ⟨_, rfl, t3, d, goal.take m, es, kvs, rfl, ⟨ht3, hg.th.same s13, fun z hz => hg.ins z (List.mem_of_mem_take hz), by rw [List.length_take]; omega⟩, fun t4 xs4 H4 s4 ht4 hd4 => ?_⟩
            have lx : xs4.length = (winds es (goal.take m)).length := by have := DpAll.len hd4; rwa [List.length_map] at this
            refine ⟨t4, _, rfl, .inr ht4, _, _, rfl, rfl, ?_⟩
            obtain ⟨pw, gx, hpw⟩ := th_windAt (hg.th.same (s13.trans s4)) hin e4
            refine ⟨_, rfl, _, rfl, _, rfl, d, _, rfl, gx, pw, _, _, _, rfl, rfl, hpw, rfl, _, rfl, _, rfl, _, rfl, ?_⟩
            refine sl_to (k := m) (sqt_same (s13.trans s4) hg.fr) (by rw [List.length_map]; omega) fun t5 H5 s5 ht5 => ?_
            rw [← List.map_take] at ht5
            refine ⟨_, rfl, _, rfl, by show 3 ≤ sizeLine; decide, fun t6 ht6 => ⟨by show 4 ≤ sizeLine; decide, fun t7 ht7 => ?_⟩⟩
            have s6 := same_new (o := .tup [.str "to", .ref b, .int ((xs4.length : Nat) + 1)]) ht6
            have s7 := same_new (o := .tup [.str "enter", .int (1000 + b2), .ref t5, .ref t6]) ht7
            refine k _ _ ((((s13.trans s4).trans s5).trans s6).trans s7) (.tup (.inl (.inl upd_same)) (.cons (.str _) (.cons (.int _) (.cons (dp_encF (sqt_same (s6.trans s7) ht5))
              (.cons (.tup (.inl (.inl (s7 _ _ upd_same))) (.cons (.str _) (.cons (dp_encF (sqt_same ((((s13.trans s4).trans s5).trans s6).trans s7) hg.fr)) (.cons ?_ .nil)))) .nil)))))
            rw [lx]
            exact .int _
end
end K10

namespace K10
open PySem L2 Cm
def spNo : Sp := fun _ _ _ _ => False
def spNext (K : PySem.W.Frag) : Sp := fun vs H Q _ => ∃ (a r d : Addr) (below goal : List Int) (es : Things) (kvs : List (Key × V)) (n : Nat), vs = [.ref a, .ref r, .ref d] ∧ Fr K H a d below es kvs ∧ Dp K H (.ref r) (roadD goal (n : Nat)) ∧ (∀ b ∈ goal, b ∈ es.map (·.1)) ∧ goal.length ≤ 25000 ∧ n ≤ (winds es goal).length ∧
  ∀ (v : V) (H' : Hp), Same H H' → Dp K H' v (toStep es (presM es below goal n) goal) → Q v H'
theorem dp_tup {K : PySem.W.Frag} {H : Hp} {v : V} {ds : List PyData} (h : Dp K H v (.tuple ds)) : ∃ t xs, v = .ref t ∧ SqT K H t xs ∧ DpAll K H xs ds := by
  cases h with
  | tup hs ha => exact ⟨_, _, rfl, hs, ha⟩
theorem encF_dp {K : PySem.W.Frag} {H : Hp} {v : V} {fs : List Int} (h : Dp K H v (encF fs)) : ∃ t, v = .ref t ∧ SqT K H t (fs.map V.int) := by
  obtain ⟨t, xs, rfl, hs, ha⟩ := dp_tup h
  obtain ⟨gs, rfl, e, _⟩ := all_ints (P := fun _ => True) ha fun d hd => by
    obtain ⟨q, _, rfl⟩ := List.mem_map.mp hd
    exact ⟨_, rfl, trivial⟩
  rw [map_int_inj e]
  exact ⟨t, rfl, hs⟩
theorem roadD_dp {K : PySem.W.Frag} {H : Hp} {v : V} {goal : List Int} {n : Int} (h : Dp K H v (roadD goal n)) : ∃ t g, v = .ref t ∧ SqT K H t [.str "to", .ref g, .int n] ∧ SqT K H g (goal.map V.int) := by
  obtain ⟨t, xs, rfl, hs, ha⟩ := dp_tup h
  cases ha with
  | cons a1 ha =>
    cases ha with
    | cons a2 ha =>
      cases ha with
      | cons a3 ha =>
        cases ha
        cases a1
        cases a3
        obtain ⟨g, rfl, hg⟩ := encF_dp a2
        exact ⟨t, g, rfl, hs, hg⟩
section
variable {P : Program} {w : World} {K : PySem.W.Frag} {mg : Str → Option Value} {base : Heap}
abbrev s_p_lay_on : Stmt := top 5
abbrev N_p_lay_on : List Str := ["below", "frames", "things", "winds", "position", "birth"]
theorem sc_p_lay_on : FnScope N_p_lay_on ["below", "frames", "things"] (defScope s_p_lay_on) := ⟨rfl, rfl, rfl, by decide +kernel, rfl, by decide +kernel, by decide +kernel⟩
theorem no_lay_on (D : At K mg "lay_on" s_p_lay_on ["below", "frames", "things"]) : Cl P w K mg base 2 "lay_on" spNo :=
  cl_of D sc_p_lay_on (fun _ _ _ _ h => h.elim) fun _ _ _ _ _ _ _ _ _ _ h => h.elim
abbrev s_p_step_off : Stmt := top 8
abbrev N_p_step_off : List Str := ["below", "things", "cut", "winds", "position", "birth"]
theorem sc_p_step_off : FnScope N_p_step_off ["below", "things"] (defScope s_p_step_off) := ⟨rfl, rfl, rfl, by decide +kernel, rfl, by decide +kernel, by decide +kernel⟩
theorem no_step_off (D : At K mg "_step_off" s_p_step_off ["below", "things"]) : Cl P w K mg base 2 "_step_off" spNo :=
  cl_of D sc_p_step_off (fun _ _ _ _ h => h.elim) fun _ _ _ _ _ _ _ _ _ _ h => h.elim
abbrev s_p_next_step : Stmt := top 6
abbrev N_p_next_step : List Str := ["below", "road", "things", "word"]
theorem sc_p_next_step : FnScope N_p_next_step ["below", "road", "things"] (defScope s_p_next_step) := ⟨rfl, rfl, rfl, by decide +kernel, rfl, by decide +kernel, by decide +kernel⟩
theorem ok_next (T : Txt mg) (c_p_step_to : Cl P w K mg base 3 "_step_to" (spStepTo K)) (c_p_lay_on : Cl P w K mg base 2 "lay_on" spNo) (c_p_step_off : Cl P w K mg base 2 "_step_off" spNo) (D : At K mg "next_step" s_p_next_step ["below", "road", "things"]) : Cl P w K mg base 4 "next_step" (spNext K) := by
  refine cl_of D sc_p_next_step (fun vs H Q E h => ?_) fun f cdv A outer s H vs Q E hr h => ?_
  · obtain ⟨a, r, d, below, goal, es, kvs, n, rfl, _⟩ := h
    rfl
  · obtain ⟨a, r, d, below, goal, es, kvs, n, rfl, hb, hrd, hin, hlen, hn, k⟩ := h
    refine ⟨_, (pss_cons (ps_set (i := 0) sc_p_next_step.nd rfl (Or.inl rfl) (pe_tupleOf (by rfl) T.tuple (pv 0)))
      (pss_cons (ps_set (i := 3) sc_p_next_step.nd rfl (Or.inl rfl) (pe_ix ix_tup (pv 1) pe_int (fun _ _ => rfl)))
      (pss_cons (ps_if (pt_cmpR op_eq (pv 3) pe_str (nomark _))
        (pss_one (ps_ret (pe_c c_p_step_to hr (by decide) (by rfl) (pa_cons (pv 0) (pa_cons (pe_tupleOf (by rfl) T.tuple (pe_ix ix_tup (pv 1) pe_int (fun _ _ => rfl))) (pa_cons (pe_ix ix_tup (pv 1) pe_int (fun _ _ => rfl)) (pa_cons (pv 2) pa_nil)))))))
        pss_nil)
      (pss_cons (ps_if (pt_cmpR op_eq (pv 3) pe_str (nomark _))
        (pss_one (ps_ret (pe_c c_p_lay_on hr (by decide) (by rfl) (pa_cons (pe_op op_catA (pv 0) (pe_tupleOf (by rfl) T.tuple (pe_slice sl_tupA (pe_ix ix_tup (pv 1) pe_int (fun _ _ => rfl)) po_none (po_some pe_int)))) (pa_cons (pe_slice sl_tupA (pe_ix ix_tup (pv 1) pe_int (fun _ _ => rfl)) (po_some pe_int) po_none) (pa_cons (pv 2) pa_nil))))))
        pss_nil)
      (pss_cons (ps_if (pt_cmpR op_eq (pv 3) pe_str (nomark _))
        (pss_one (ps_ret (pe_c c_p_step_off hr (by decide) (by rfl) (pa_cons (pv 0) (pa_cons (pv 2) pa_nil)))))
        pss_nil)
      (pss_one (ps_ret (pe_tup (pa_cons pe_str (pa_cons pe_non (pa_cons (pv 0) (pa_cons pe_non pa_nil)))))))))))), ?_⟩
    obtain ⟨t, g, e, ht, hg⟩ := roadD_dp hrd
    cases e
    refine ⟨_, rfl, .inr ⟨a, _, rfl, hb.fr, ?_⟩⟩
    refine ⟨_, rfl, r, _, _, _, rfl, rfl, ht, rfl, ?_⟩
    refine ⟨_, rfl, rfl, _, rfl, ?_⟩
    rw [decS, decide_eq_true rfl]
    refine iteT ⟨_, rfl, _, rfl, r, _, _, _, rfl, rfl, ht, rfl, .inr ⟨g, _, rfl, hg, ?_⟩⟩
    exact ⟨_, rfl, r, _, _, _, rfl, rfl, ht, rfl, _, rfl, a, g, d, below, goal, es, kvs, n, rfl, hb, ⟨hg, hb.th, hin, hlen⟩, hn, k⟩
end
end K10

namespace K10
open PySem L2 Cm
/-! the walk of a way, turn by turn -/
def cW (es : Things) (pr go : List Int) : Nat := common (winds es pr) (winds es go)
def nL (es : Things) (pr go : List Int) : Nat := (winds es pr).length - cW es pr go
def stand (es : Things) (pr go : List Int) (i : Nat) : List Int := if i ≤ nL es pr go then bs ((winds es pr).take ((winds es pr).length - i)) else bs ((winds es go).take (cW es pr go + (i - nL es pr go)))
def cur (es : Things) (pr go : List Int) (i : Nat) : PyData := if i ≤ nL es pr go then sL es pr go ((winds es pr).length - i) else sE es go (cW es pr go + (i - nL es pr go))
theorem cW_le (es : Things) (pr go : List Int) : cW es pr go ≤ (winds es pr).length ∧ cW es pr go ≤ (winds es go).length := common_le _ _
theorem stand_enter {es : Things} {pr go : List Int} {i : Nat} (h : nL es pr go ≤ i) : stand es pr go i = bs ((winds es go).take (cW es pr go + (i - nL es pr go))) := by
  unfold stand
  by_cases q : i ≤ nL es pr go
  · have e : i = nL es pr go := by omega
    have := (cW_le es pr go).1
    rw [if_pos q, e, show (winds es pr).length - nL es pr go = cW es pr go by unfold nL; omega, show cW es pr go + (nL es pr go - nL es pr go) = cW es pr go by omega]
    have := common_take (winds es pr) (winds es go)
    unfold bs at this ⊢
    rw [← List.map_take, ← List.map_take] at this
    exact this
  · rw [if_neg q]
theorem cur_enter {es : Things} {pr go : List Int} {i : Nat} (h : nL es pr go ≤ i) : cur es pr go i = sE es go (cW es pr go + (i - nL es pr go)) := by
  unfold cur
  by_cases q : i ≤ nL es pr go
  · have e : i = nL es pr go := by omega
    have := (cW_le es pr go).1
    rw [if_pos q, e, show (winds es pr).length - nL es pr go = cW es pr go by unfold nL; omega, show cW es pr go + (nL es pr go - nL es pr go) = cW es pr go by omega]
    unfold sL
    exact if_neg (Nat.lt_irrefl _)
  · rw [if_neg q]
theorem bs_snoc {l : List (Int × Int)} {n : Nat} {p : Int × Int} (h : l[n]? = some p) : bs (l.take (n + 1)) = bs (l.take n) ++ [p.2] := by
  unfold bs
  rw [List.take_add_one, h, List.map_append]
  rfl
theorem deeds_get {l e : List (Int × Int)} {i : Nat} {q : Dd} (h : (deedsM l e)[i]? = some q) :
    (i < l.length - common l e ∧ ∃ p, l[l.length - 1 - i]? = some p ∧ q = (("leave" : Str), p.1, p.2)) ∨ (l.length - common l e ≤ i ∧ ∃ p, e[common l e + (i - (l.length - common l e))]? = some p ∧ q = (("enter" : Str), p.1, p.2)) := by
  unfold deedsM at h
  have hl : ((l.drop (common l e)).reverse.map fun p => (("leave" : Str), p.1, p.2)).length = l.length - common l e := by rw [List.length_map, List.length_reverse, List.length_drop]
  by_cases hi : i < l.length - common l e
  · rw [List.getElem?_append_left (by rw [hl]; exact hi)] at h
    obtain ⟨p, e1, rfl⟩ := map_at h
    refine .inl ⟨hi, p, ?_, rfl⟩
    rw [List.getElem?_reverse (by rw [List.length_drop]; exact hi), List.getElem?_drop, List.length_drop] at e1
    rw [← e1]
    congr 1
    omega
  · rw [List.getElem?_append_right (by rw [hl]; omega), hl] at h
    obtain ⟨p, e1, rfl⟩ := map_at h
    refine .inr ⟨by omega, p, ?_, rfl⟩
    rw [List.getElem?_drop] at e1
    exact e1
theorem leave_turn {es : Things} {pr go : List Int} {i : Nat} {p : Int × Int} (hi : i < nL es pr go) (hp : (winds es pr)[(winds es pr).length - 1 - i]? = some p) :
    ∃ m : Nat, p.1 = (m : Int) ∧ m < pr.length ∧ p.2 ∈ pr ∧ cur es pr go i = stepD "leave" (2000 + p.2) (pr.take m) go 0 ∧ stand es pr go i = stand es pr go (i + 1) ++ [p.2] ∧ bs (winds es (pr.take m)) = stand es pr go (i + 1) ∧
      toStep es (presM es (pr.take m) go 0) go = cur es pr go (i + 1) := by
  have hc := cW_le es pr go
  have hn : nL es pr go = (winds es pr).length - cW es pr go := rfl
  obtain ⟨m, e1, e2, e3, e4, e5, e6⟩ := wind_at hp
  obtain ⟨n, hnn⟩ : ∃ n, (winds es pr).length - i = n + 1 := ⟨(winds es pr).length - i - 1, by omega⟩
  have i1 : (winds es pr).length - 1 - i = n := by omega
  have i2 : (winds es pr).length - (i + 1) = n := by omega
  rw [i1] at hp e5
  have s1 : stand es pr go (i + 1) = bs ((winds es pr).take n) := by
    unfold stand
    rw [if_pos (by omega), i2]
  refine ⟨m, e1, e2, List.mem_of_getElem? e3, ?_, ?_, ?_, ?_⟩
  · unfold cur sL
    rw [if_pos (by omega), hnn, if_pos (show common (winds es pr) (winds es go) < n + 1 by show cW es pr go < _; omega), show n + 1 - 1 = n from rfl, hp]
    show stepD "leave" (2000 + p.2) (pr.take p.1.toNat) go 0 = _
    rw [e1]
    rfl
  · rw [s1]
    unfold stand
    rw [if_pos (by omega), hnn]
    exact bs_snoc hp
  · rw [s1, e5]
  · unfold cur
    rw [if_pos (by omega), i2]
    have : presM es (pr.take m) go 0 = pr.take m := if_pos rfl
    rw [this]
    refine leave_step es e5 (show cW es pr go ≤ n by omega) (by omega) fun z hz h0 => ?_
    obtain ⟨mz, z1, z2, _, _, z5, _⟩ := wind_at hz
    have hl5 := congrArg List.length e5
    have hl6 := congrArg List.length z5
    by_cases hlt : mz ≤ m
    · rw [z1]
      exact hlt
    · exfalso
      have h7 : ((winds es (pr.take mz)).length : Nat) = n - 1 := by rw [hl6, List.length_take]; omega
      have h8 : ((winds es (pr.take m)).length : Nat) = n := by rw [hl5, List.length_take]; omega
      have h9 : (winds es (pr.take m)).length ≤ (winds es (pr.take mz)).length := by
        have e : pr.take mz = pr.take m ++ (pr.take mz).drop m := by
          have := (List.take_append_drop m (pr.take mz)).symm
          rw [List.take_take, Nat.min_eq_left (by omega)] at this
          exact this
        rw [e, winds_F, winds_F, windsF_app, List.length_append]
        omega
      omega
theorem enter_turn {es : Things} {pr go : List Int} {i : Nat} {p : Int × Int} (hi : nL es pr go ≤ i) (hp : (winds es go)[cW es pr go + (i - nL es pr go)]? = some p) :
    ∃ m : Nat, p.1 = (m : Int) ∧ m < go.length ∧ p.2 ∈ go ∧ cur es pr go i = stepD "enter" (1000 + p.2) (go.take m) go (cW es pr go + (i - nL es pr go) + 1 : Nat) ∧ stand es pr go (i + 1) = stand es pr go i ++ [p.2] ∧ bs (winds es (go.take m)) = stand es pr go i ∧
      cW es pr go + (i - nL es pr go) < (winds es go).length ∧ toStep es (presM es (go.take m) go (cW es pr go + (i - nL es pr go) + 1)) go = cur es pr go (i + 1) := by
  obtain ⟨m, e1, e2, e3, e4, e5, e6⟩ := wind_at hp
  have hlt := (List.getElem?_eq_some_iff.mp hp).1
  refine ⟨m, e1, e2, List.mem_of_getElem? e3, ?_, ?_, ?_, hlt, ?_⟩
  · rw [cur_enter hi]
    unfold sE
    rw [hp]
    show stepD "enter" (1000 + p.2) (go.take p.1.toNat) go (cW es pr go + (i - nL es pr go) + 1 : Nat) = _
    rw [e1]
    rfl
  · rw [stand_enter hi, stand_enter (show nL es pr go ≤ i + 1 by omega), show cW es pr go + (i + 1 - nL es pr go) = cW es pr go + (i - nL es pr go) + 1 by omega]
    exact bs_snoc hp
  · rw [stand_enter hi, e5]
  · rw [enter_next es hlt, cur_enter (show nL es pr go ≤ i + 1 by omega), show cW es pr go + (i + 1 - nL es pr go) = cW es pr go + (i - nL es pr go) + 1 by omega]
theorem cur_zero (es : Things) (pr go : List Int) : toStep es (presM es pr go 0) go = cur es pr go 0 := by
  have : presM es pr go 0 = pr.take pr.length := by
    rw [List.take_length]
    exact if_pos rfl
  rw [this]
  unfold cur
  rw [if_pos (Nat.zero_le _), Nat.sub_zero]
  refine leave_step es (by rw [List.take_length, List.take_length]) (cW_le es pr go).1 (Nat.le_refl _) fun z hz _ => ?_
  obtain ⟨m, z1, z2, _⟩ := wind_at hz
  rw [z1]
  exact Nat.le_of_lt z2
theorem cur_end (es : Things) (pr go : List Int) : cur es pr go (deedsM (winds es pr) (winds es go)).length = arriveD go := by
  have hc := cW_le es pr go
  have hl : (deedsM (winds es pr) (winds es go)).length = nL es pr go + ((winds es go).length - cW es pr go) := by
    unfold deedsM
    rw [List.length_append, List.length_map, List.length_map, List.length_reverse, List.length_drop, List.length_drop]
    rfl
  rw [cur_enter (by omega), hl]
  unfold sE
  rw [List.getElem?_eq_none (by omega)]
theorem stand_zero (es : Things) (pr go : List Int) : stand es pr go 0 = bs (winds es pr) := by
  unfold stand
  rw [if_pos (Nat.zero_le _), Nat.sub_zero, List.take_length]
end K10

namespace K10
open PySem L2 Cm
theorem flat_ints : ∀ fs : List Int, flatDs (fs.map PyData.int) = true
  | [] => rfl
  | _ :: fs => by
    show (flatD (.int _) && flatDs (fs.map PyData.int)) = true
    rw [flat_ints fs]
    rfl
theorem flat_encF (fs : List Int) : flatD (encF fs) = true := flat_ints fs
theorem flat_road (go : List Int) (n : Int) : flatD (roadD go n) = true := by
  show (flatD (.str "to") && (flatD (encF go) && (flatD (.int n) && flatDs []))) = true
  rw [flat_encF]
  rfl
theorem flat_step (w : Str) (d : Int) (fs go : List Int) (n : Int) : flatD (stepD w d fs go n) = true := by
  show (flatD (.str w) && (flatD (.int d) && (flatD (encF fs) && (flatD (roadD go n) && flatDs [])))) = true
  rw [flat_encF, flat_road]
  rfl
theorem flat_arrive (fs : List Int) : flatD (arriveD fs) = true := by
  show (flatD (.str "arrive") && (flatD .none && (flatD (encF fs) && (flatD .none && flatDs [])))) = true
  rw [flat_encF]
  rfl
theorem stepD_dp {K : PySem.W.Frag} {H : Hp} {v : V} {w : Str} {d : Int} {fs go : List Int} {n : Int} (h : Dp K H v (stepD w d fs go n)) :
    ∃ t f r, v = .ref t ∧ SqT K H t [.str w, .int d, .ref f, .ref r] ∧ SqT K H f (fs.map V.int) ∧ Dp K H (.ref r) (roadD go n) := by
  obtain ⟨t, xs, rfl, hs, ha⟩ := dp_tup h
  cases ha with
  | cons a1 ha =>
    cases ha with
    | cons a2 ha =>
      cases ha with
      | cons a3 ha =>
        cases ha with
        | cons a4 ha =>
          cases ha
          cases a1
          cases a2
          obtain ⟨f, rfl, hf⟩ := encF_dp a3
          obtain ⟨r, g, rfl, _, _⟩ := roadD_dp a4
          exact ⟨t, f, r, rfl, hs, hf, a4⟩
def SmA (D W : Nat) (ds : List PyData) : Prop := okDs ds = true ∧ PyData.depthAll ds ≤ D ∧ PyData.weightAll ds ≤ W
theorem SmA.nil {D : Nat} : SmA D 0 [] := ⟨rfl, by simp [PyData.depthAll], by simp [PyData.weightAll]⟩
theorem SmA.cons {D W W' : Nat} {d : PyData} {ds : List PyData} (a : Sm D W d) (b : SmA D W' ds) : SmA D (W + 1 + W') (d :: ds) :=
  ⟨by simp [okDs, a.ok, b.1], by
    have := a.dp
    have := b.2.1
    simp only [PyData.depthAll]
    omega, by
    have := a.wt
    have := b.2.2
    simp only [PyData.weightAll]
    omega⟩
theorem SmA.tup {D W : Nat} {ds : List PyData} (b : SmA D W ds) : Sm (D + 1) W (.tuple ds) :=
  ⟨by simpa [okD] using b.1, by
    have := b.2.1
    simp only [PyData.depth]
    omega, by
    simp only [PyData.weight]
    exact b.2.2⟩
theorem sm_small {i : Int} (h : i.natAbs < 64) : Sm 0 6 (.int i) :=
  ⟨(sm_int (show i.natAbs < 10 ^ 12 by omega)).ok, by simp [PyData.depth], by
    simp only [PyData.weight]
    split
    · omega
    · rename_i q
      have q' : i.natAbs ≠ 0 := fun e => q (by simpa using e)
      have := (Nat.log2_lt q').mpr (show i.natAbs < 2 ^ 6 from h)
      omega⟩
theorem sm_encF {fs : List Int} (h : ∀ b ∈ fs, b.natAbs < 64) (hl : fs.length ≤ 25000) : Sm 1 200000 (encF fs) :=
  (Sm.tuple (D := 0) (W := 6) (m := 25000) (fun d hd => by
    obtain ⟨b, hb, rfl⟩ := List.mem_map.mp hd
    exact sm_small (h b hb)) (by rw [List.length_map]; exact hl)).mono (Nat.le_refl _) (by decide)
theorem sm_wd {w : Str} (h : w = "to" ∨ w = "leave" ∨ w = "enter" ∨ w = "arrive") : Sm 0 64 (.str w) := by
  rcases h with rfl | rfl | rfl | rfl <;> exact ⟨by decide +kernel, by decide +kernel, by decide +kernel⟩
theorem sm_non : Sm 0 64 .none := ⟨by decide +kernel, by decide +kernel, by decide +kernel⟩
theorem sm_road {go : List Int} {n : Int} (h : ∀ b ∈ go, b.natAbs < 64) (hl : go.length ≤ 25000) (hn : n.natAbs < 10 ^ 12) : Sm 2 200200 (roadD go n) :=
  (SmA.tup (D := 1) (((sm_wd (.inl rfl)).mono (by decide) (Nat.le_refl _) : Sm 1 64 _) |> fun a => SmA.cons a (SmA.cons (sm_encF h hl) (SmA.cons (((sm_int hn).mono (by decide) (Nat.le_refl _) : Sm 1 64 _)) SmA.nil)))).mono (Nat.le_refl _) (by decide)
theorem sm_step {w : Str} {d : Int} {fs go : List Int} {n : Int} (hw : w = "to" ∨ w = "leave" ∨ w = "enter" ∨ w = "arrive") (hd : d.natAbs < 10 ^ 12) (hf : ∀ b ∈ fs, b.natAbs < 64) (lf : fs.length ≤ 25000) (hg : ∀ b ∈ go, b.natAbs < 64) (lg : go.length ≤ 25000) (hn : n.natAbs < 10 ^ 12) :
    Sm 3 500000 (stepD w d fs go n) :=
  (SmA.tup (D := 2) (SmA.cons ((sm_wd hw).mono (by decide) (Nat.le_refl _)) (SmA.cons ((sm_int hd).mono (by decide) (Nat.le_refl _)) (SmA.cons ((sm_encF hf lf).mono (by decide) (Nat.le_refl _)) (SmA.cons (sm_road hg lg hn) SmA.nil))))).mono (Nat.le_refl _) (by decide)
theorem sm_arrive {fs : List Int} (hf : ∀ b ∈ fs, b.natAbs < 64) (lf : fs.length ≤ 25000) : Sm 3 500000 (arriveD fs) :=
  (SmA.tup (D := 2) (SmA.cons ((sm_wd (.inr (.inr (.inr rfl)))).mono (by decide) (Nat.le_refl _)) (SmA.cons (sm_non.mono (by decide) (Nat.le_refl _)) (SmA.cons ((sm_encF hf lf).mono (by decide) (Nat.le_refl _)) (SmA.cons (sm_non.mono (by decide) (Nat.le_refl _)) SmA.nil))))).mono (Nat.le_refl _) (by decide)
theorem eqv_ints : ∀ ns : List Int, PyData.eqvAll (ns.map PyData.int) (ns.map PyData.int) = true
  | [] => rfl
  | n :: ns => by
    show (PyData.eqv (.int n) (.int n) && PyData.eqvAll (ns.map PyData.int) (ns.map PyData.int)) = true
    rw [eqv_ints ns]
    show ((n == n) && true) = true
    simp
theorem bs_ints {K : PySem.W.Frag} {H : Hp} {acc : List V} {l : List (Int × Int)} (h : DpAll K H acc (l.map fun p => PyData.int p.2)) : acc = (bs l).map V.int := by
  obtain ⟨fs, rfl, e, _⟩ := all_ints (P := fun _ => True) h fun d hd => by
    obtain ⟨q, _, rfl⟩ := List.mem_map.mp hd
    exact ⟨_, rfl, trivial⟩
  have : l.map (fun p => PyData.int p.2) = (bs l).map PyData.int := by
    unfold bs
    rw [List.map_map]
    rfl
  rw [this] at e
  rw [map_int_inj e]
/-- the births of pairs, gathered -/
theorem lc_births {K : PySem.W.Frag} {vs : List Nat} {σ : L2.St} {i j : Nat} {H1 : Hp} {D t : Addr} {xs : List V} {l : List (Int × Int)} {Qd : Hp → Prop} (ht : H1 t = some (.lst xs)) (hd : DpAll K H1 xs (l.map encP)) (hl : l.length ≤ 25000) (hD : H1 D = Option.none)
    (hw : ∀ p : Int × Int, wipe (((wipe σ vs).set i (some (V.int p.1))).set j (some (V.int p.2))) vs = wipe σ vs)
    (hj : ∀ p : Int × Int, (((wipe σ vs).set i (some (V.int p.1))).set j (some (V.int p.2)))[j]? = some (some (V.int p.2)))
    (h : ∀ H, Same H1 H → H D = some (.lst ((bs l).map V.int)) → Qd H) :
    ∃ W : Nat → Nat → Hp → Prop, (∃ m, W 0 m (upd H1 D (.lst []))) ∧ ∀ m0 m H, W m0 m H →
      ((Itl K t).stop m0 H ∧ Qd H) ∨ ((Itl K t).go m0 H ∧ ∃ Nx : Hp → Prop, (∀ H', Nx H' → ∃ m', m' < m ∧ W (m0 + 1) m' H') ∧ ∀ x H', (Itl K t).yld m0 H x H' → (gTup K 2 (gCons (gName i) (gCons (gName j) gNil))) x (wipe σ vs) H' fun σ2 H2 => wipe σ2 vs = wipe σ vs ∧ tYes σ2 H2 fun b H3 =>
        if b = true then (tVar j) σ2 H3 fun y H4 => ∃ acc, H4 D = some (.lst acc) ∧ acc.length < sizeLine ∧ Nx (upd H4 D (.lst (acc ++ [y]))) else Nx H3) := by
  have lx : xs.length = l.length := by have := DpAll.len hd; rwa [List.length_map] at this
  refine lc_data (K := K) (walk_list (xs := xs)) (fun m => (l[m]?).map fun p => PyData.int p.2) hD (by omega) (fun H' s => s.seq (.inl (.inl ht))) (fun m _ z e => ?_) ?_ ?_
  · obtain ⟨q, _, rfl⟩ := Option.map_eq_some_iff.mp e
    rfl
  · rintro m v H0 H2 hm s1 ⟨rfl, e2⟩ Q1 Q0 q1 q0
    obtain ⟨d1, g1, g2⟩ := DpAll.atV hd e2
    obtain ⟨p, ep, rfl⟩ := map_at g1
    obtain ⟨t1, rfl, h1⟩ := dp_enc (dp_same s1 _ _ g2)
    refine ⟨t1, _, rfl, h1, rfl, _, _, rfl, _, _, rfl, rfl, hw p, ?_⟩
    exact iteT (B := Q0 H2) ⟨.int p.2, hj p, q1 _ _ (.int p.2) (by rw [ep]; rfl) (Same.refl _) (.int _)⟩
  · intro H2 acc s1 hacc ha
    rw [lx, range_at l fun p => PyData.int p.2] at ha
    have := bs_ints ha
    subst this
    exact h H2 s1 hacc
end K10

namespace K10
open PySem L2 Cm
def spWalk (K : PySem.W.Frag) : Sp := fun vs H Q _ => ∃ (a b d : Addr) (pr go : List Int) (es : Things) (kvs : List (Key × V)) (n : Nat), vs = [.ref a, .ref b, .ref d] ∧ Fr K H a d pr es kvs ∧ Fr K H b d go es kvs ∧ pr.length ≤ 25000 ∧ go.length ≤ 25000 ∧ es.map (·.1) = births n ∧ n ≤ 60 ∧
  ∀ H', Same H H' → Q (.bl true) H'
theorem turn_at {es : Things} {pr go : List Int} {i : Nat} {wd : Str} {p1 b2 : Int} (eq : (deedsM (winds es pr) (winds es go))[i]? = some (wd, p1, b2)) :
    ∃ (mm : Nat) (fs1 : List Int) (nn : Nat) (deed : Int), p1 = (mm : Int) ∧ cur es pr go i = stepD wd deed fs1 go (nn : Nat) ∧ nn ≤ (winds es go).length ∧ toStep es (presM es fs1 go nn) go = cur es pr go (i + 1) ∧
      ((wd = "leave" ∧ i < nL es pr go ∧ deed = 2000 + b2 ∧ fs1 = pr.take mm ∧ mm < pr.length ∧ nn = 0 ∧ b2 ∈ pr ∧ stand es pr go i = stand es pr go (i + 1) ++ [b2] ∧ bs (winds es fs1) = stand es pr go (i + 1)) ∨
        (wd = "enter" ∧ nL es pr go ≤ i ∧ deed = 1000 + b2 ∧ fs1 = go.take mm ∧ mm < go.length ∧ nn = cW es pr go + (i - nL es pr go) + 1 ∧ b2 ∈ go ∧ stand es pr go (i + 1) = stand es pr go i ++ [b2] ∧ bs (winds es fs1) = stand es pr go i)) := by
  rcases deeds_get eq with ⟨hi, p, hp, e⟩ | ⟨hi, p, hp, e⟩
  · cases e
    obtain ⟨m, e1, e2, e3, e4, e5, e6, e7⟩ := leave_turn hi hp
    exact ⟨m, _, 0, _, e1, e4, Nat.zero_le _, e7, .inl ⟨rfl, hi, rfl, rfl, e2, rfl, e3, e5, e6⟩⟩
  · cases e
    obtain ⟨m, e1, e2, e3, e4, e5, e6, e7, e8⟩ := enter_turn hi hp
    exact ⟨m, _, _, _, e1, e4, e7, e8, .inr ⟨rfl, hi, rfl, rfl, e2, rfl, e3, e5, e6⟩⟩
theorem len4 (x y z w : V) : (!decide (V.int ((([x, y, z, w] : List V).length : Nat) : Int) = V.int 4)) = false := by simp
section
variable {P : Program} {w : World} {K : PySem.W.Frag} {mg : Str → Option Value} {base : Heap}
abbrev s_l_walk : Stmt := top 21
abbrev N_l_walk : List Str := ["_law_present", "_law_goal", "_law_things_here", "_law_many", "_law_deeds_here", "_law_standing", "_law_at", "_law_birth", "_law_step", "_law_entered", "_law_word", "_law_place", "_law_each"]
theorem sc_l_walk : FnScope N_l_walk ["_law_present", "_law_goal", "_law_things_here"] (defScope s_l_walk) := ⟨rfl, rfl, rfl, by decide +kernel, rfl, by decide +kernel, by decide +kernel⟩
theorem ok_walk (T : Txt mg) (hI : mg "isinstance" = none) (c_l_deeds : Cl P w K mg base 2 "_law_deeds" (spDeedsL K)) (c_l_winds_of : Cl P w K mg base 1 "_law_winds_of" (spWindsL K)) (c_p_next_step : Cl P w K mg base 4 "next_step" (spNext K))
    (D : At K mg "_law_walk" s_l_walk ["_law_present", "_law_goal", "_law_things_here"]) : ClG P w K mg base 5 "_law_walk" (spWalk K) := by
  refine clG_of D sc_l_walk (fun vs H Q E h => ?_) fun f cdv A outer s H vs Q E hgd hr h => ?_
  · obtain ⟨a, b, d, pr, go, es, kvs, n, rfl, _⟩ := h
    rfl
  · obtain ⟨a, b, d, pr, go, es, kvs, n, rfl, hp, hg, lp, lg, hk, hn, k⟩ := h
    refine ⟨_, (pss_cons (ps_asg (pe_c c_l_deeds hr (by decide) (by rfl) (pa_cons (pv 0) (pa_cons (pv 1) (pa_cons (pv 2) pa_nil)))) (pg_tup (by rfl) (pgs_cons (pg_name (i := 3) sc_l_walk.nd rfl (Or.inl rfl)) (pgs_cons (pg_name (i := 4) sc_l_walk.nd rfl (Or.inl rfl)) pgs_nil))))
      (pss_cons (ps_setLc (i := 5) (own := [("_law_at", 6), ("_law_birth", 7)]) (g := gTup K 2 (gCons (gName 6) (gCons (gName 7) gNil))) rfl sc_l_walk.nd rfl rfl (sw_true rfl rfl rfl (by decide +kernel)) (pi_list (pe_c c_l_winds_of hr (by decide) (by rfl) (pa_cons (pv 0) (pa_cons (pv 2) pa_nil)))) (blkOk_by (N := N_l_walk) (sc := defScope s_l_walk) (by decide +kernel))
      (fun _ _ _ _ _ => (pg_tup rfl (pgs_cons (pg_name (i := 6) sc_l_walk.nd rfl (Or.inl rfl)) (pgs_cons (pg_name (i := 7) sc_l_walk.nd rfl (Or.inl rfl)) pgs_nil))))
      (fun _ _ _ _ _ => pts_nil)
      (fun _ _ _ _ _ => (pv 7)))
      (pss_cons (ps_set (i := 8) sc_l_walk.nd rfl (Or.inl rfl) (pe_c c_p_next_step hr (by decide) (by rfl) (pa_cons (pv 0) (pa_cons (pe_tup (pa_cons pe_str (pa_cons (pv 1) (pa_cons pe_int pa_nil)))) (pa_cons (pv 2) pa_nil)))))
      (pss_cons (ps_set (i := 9) sc_l_walk.nd rfl (Or.inl rfl) (pv 3))
      (pss_cons (ps_for PassesOwn.never rfl (pi_list (pv 4)) (pg_tup (by rfl) (pgs_cons (pg_name (i := 10) sc_l_walk.nd rfl (Or.inl rfl)) (pgs_cons (pg_name (i := 6) sc_l_walk.nd rfl (Or.inl rfl)) (pgs_cons (pg_name (i := 7) sc_l_walk.nd rfl (Or.inl rfl)) pgs_nil))))
        (pss_cons (ps_if (PW.pt (pw_or (pt_not (pt_val (pe_callB call_isi (by rfl) hI (by decide +kernel) (pa_cons (pv 8) (pa_cons (pe_bltn (v := .ty "tuple") (by rfl) T.tuple (by rfl) (show RelV (.ty "tuple") (.type "tuple") from rfl)) pa_nil))))) (pw_or (pt_cmpR op_ne (pe_callB call_len_seq (by rfl) T.len (by decide +kernel) (pa_cons (pv 8) pa_nil)) pe_int (nomark _)) (pw_or1 (pt_cmpR op_ne (pe_ix ix_tup (pv 8) pe_int (fun _ _ => rfl)) (pv 10) (nomark _))))))
          (pss_one (ps_ret pe_bl))
          pss_nil)
        (pss_mid (ps_if (pt_cmpR op_eq (pv 10) pe_str (nomark _))
          (pss_one (ps_if (PW.pt (pw_or (pt_cmpR op_ne (pe_bm0 PySem.F.plainAttrs_list PySem.F.slot_list_pop PySem.F.type_list_pop mt_pop (pv 5)) (pv 7) (nomark _)) (pw_or1 (pt_cmpR op_ne (pe_callB (call_reprD hgd hr.units) (by rfl) T.repr (by decide +kernel) (pa_cons (pv 8) pa_nil)) (pe_callB (call_reprD hgd hr.units) (by rfl) T.repr (by decide +kernel) (pa_cons (pe_tup (pa_cons pe_str (pa_cons (pe_op op_add pe_int (pv 7)) (pa_cons (pe_slice sl_tupA (pv 0) po_none (po_some (pv 6))) (pa_cons (pe_tup (pa_cons pe_str (pa_cons (pv 1) (pa_cons pe_int pa_nil)))) pa_nil))))) pa_nil)) (nomark _)))))
            (pss_one (ps_ret pe_bl))
            pss_nil))
          (pss_cons (ps_set (i := 9) sc_l_walk.nd rfl (Or.inl rfl) (pe_op op_add (pv 9) pe_int))
          (pss_one (ps_if (pt_cmpR op_ne (pe_callB (call_reprD hgd hr.units) (by rfl) T.repr (by decide +kernel) (pa_cons (pv 8) pa_nil)) (pe_callB (call_reprD hgd hr.units) (by rfl) T.repr (by decide +kernel) (pa_cons (pe_tup (pa_cons pe_str (pa_cons (pe_op op_add pe_int (pv 7)) (pa_cons (pe_slice sl_tupA (pv 1) po_none (po_some (pv 6))) (pa_cons (pe_tup (pa_cons pe_str (pa_cons (pv 1) (pa_cons (pv 9) pa_nil)))) pa_nil))))) pa_nil)) (nomark _))
            (pss_one (ps_ret pe_bl))
            pss_nil))))
        (pss_cons (ps_if (pt_cmpR (op_neD hr.units) (pe_lc (own := [("_law_place", 11), ("_law_each", 12)]) (g := gTup K 2 (gCons (gName 11) (gCons (gName 12) gNil))) rfl sc_l_walk.nd (pi_list (pe_c c_l_winds_of hr (by decide) (by rfl) (pa_cons (pe_ix ix_tup (pv 8) pe_int (fun _ _ => rfl)) (pa_cons (pv 2) pa_nil)))) (blkOk_by (N := N_l_walk) (sc := defScope s_l_walk) (by decide +kernel))
      (fun _ _ _ _ _ => (pg_tup rfl (pgs_cons (pg_name (i := 11) sc_l_walk.nd rfl (Or.inl rfl)) (pgs_cons (pg_name (i := 12) sc_l_walk.nd rfl (Or.inl rfl)) pgs_nil))))
      (fun _ _ _ _ _ => pts_nil)
      (fun _ _ _ _ _ => (pv 12))) (pv 5) (nomark _))
          (pss_one (ps_ret pe_bl))
          pss_nil)
        (pss_cons (ps_if (pt_cmpR op_eq (pv 10) pe_str (nomark _))
          (pss_one (ps_expr (pe_bm PySem.F.plainAttrs_list PySem.F.slot_list_append PySem.F.type_list_append mt_append (pv 5) (pa_cons (pv 7) pa_nil))))
          pss_nil)
        (pss_one (ps_set (i := 8) sc_l_walk.nd rfl (Or.inl rfl) (pe_c c_p_next_step hr (by decide) (by rfl) (pa_cons (pe_ix ix_tup (pv 8) pe_int (fun _ _ => rfl)) (pa_cons (pe_ix ix_tup (pv 8) pe_int (fun _ _ => rfl)) (pa_cons (pv 2) pa_nil)))))))))))
      (pss_one (ps_ret (pe_cmpR op_eq (pe_callB (call_reprD hgd hr.units) (by rfl) T.repr (by decide +kernel) (pa_cons (pv 8) pa_nil)) (pe_callB (call_reprD hgd hr.units) (by rfl) T.repr (by decide +kernel) (pa_cons (pe_tup (pa_cons pe_str (pa_cons pe_non (pa_cons (pv 1) (pa_cons pe_non pa_nil))))) pa_nil)) (nomark _))))))))), ?_⟩
    have hb9 : ∀ b ∈ births n, b.natAbs < 64 := fun b hb => by
      have := births_mem.mp hb
      omega
    have hp9 : ∀ b ∈ pr, b.natAbs < 64 := fun b hb => hb9 b (by rw [← hk]; exact hp.ins b hb)
    have hg9 : ∀ b ∈ go, b.natAbs < 64 := fun b hb => hb9 b (by rw [← hk]; exact hg.ins b hb)
    have hsm : ∀ b ∈ births n, (1000 + b).natAbs < 10 ^ 12 ∧ (2000 + b).natAbs < 10 ^ 12 := fun b hb => by
      have := births_mem.mp hb
      omega
    have wp := winds_len es pr
    have wg := winds_len es go
    have hcw := cW_le es pr go
    -- the deeds
    refine ⟨_, rfl, _, rfl, _, rfl, a, b, d, pr, go, es, kvs, rfl, hp, hg, fun u m xs H1 s1 hu hm0 hm hd => ?_⟩
    refine ⟨u, _, rfl, hu, rfl, _, _, rfl, _, _, rfl, rfl, ?_⟩
    -- the standing ones
    refine ⟨_, rfl, _, rfl, a, d, pr, es, kvs, rfl, hp.same s1, fun t2 xs2 H2 s2 ht20 ht2 hd2 => ⟨t2, rfl, ⟨_, .inl (.inl ht2)⟩, fun o ho => ?_⟩⟩
    refine lc_births (K := K) ht2 hd2 (by omega) ho (fun _ => rfl) (fun _ => rfl) fun H3 s3 ho3 => ?_
    have s13 := (s1.trans s2).trans s3
    have hom : ∀ {H' : Hp}, Same H2 H' → H o = Option.none := fun _ => (s1.trans s2).free ho
    have hoH : H o = Option.none := (s1.trans s2).free ho
    -- the first step
    refine ⟨_, rfl, _, rfl, by show 3 ≤ sizeLine; decide, fun r hr0 => ?_⟩
    have s4 := same_new (o := .tup [.str "to", .ref b, .int 0]) hr0
    have s14 := s13.trans s4
    refine ⟨_, rfl, a, r, d, pr, go, es, kvs, 0, rfl, hp.same s14, .tup (.inl (.inl upd_same)) (.cons (.str _) (.cons (dp_encF (sqt_same s14 hg.fr)) (.cons (.int _) .nil))), hg.ins, hg.len, Nat.zero_le _, fun st H5 s5 hst => ?_⟩
    have s15 := s14.trans s5
    rw [cur_zero] at hst
    refine ⟨_, rfl, ?_⟩
    have hm5 : H5 m = some (.lst xs) := (((s2.trans s3).trans s4).trans s5) _ _ hm
    have hd5 := dps_same (((s2.trans s3).trans s4).trans s5) _ _ hd
    have hmo : m ≠ o := fun e => by
      have := s2 _ _ hm
      rw [e, ho] at this
      cases this
    have lx : xs.length = (deedsM (winds es pr) (winds es go)).length := by have := DpAll.len hd; rwa [List.length_map] at this
    refine ⟨_, rfl, m, rfl, ⟨_, .inl (.inl hm5)⟩, ?_⟩
    refine for_it (walk_list (xs := xs)) (fun i σ H' => ∃ (v6 v7 v10 : Option V) (st : V), σ = [some (.ref a), some (.ref b), some (.ref d), some (.int (cW es pr go : Nat)), some (.ref m), some (.ref o), v6, v7, some st, some (.int (cW es pr go + (i - nL es pr go) : Nat)), v10, none, none] ∧
        Same H H' ∧ H' m = some (.lst xs) ∧ DpAll K H' xs ((deedsM (winds es pr) (winds es go)).map encD) ∧ H' o = some (.lst ((stand es pr go i).map V.int)) ∧ Dp K H' st (cur es pr go i))
      ⟨Option.none, Option.none, Option.none, st, ?_, s15, hm5, hd5, ?_, hst⟩ (fun i σ H' _ z => ?_) ?_ ?_
    · rw [show cW es pr go + (0 - nL es pr go) = cW es pr go by omega]
      rfl
    · rw [stand_zero]
      exact (s4.trans s5) _ _ ho3
    · obtain ⟨_, _, _, _, _, _, q, _⟩ := z
      exact .inl (.inl q)
    · rintro i x σ H0 H6 hi ⟨v6, v7, v10, st, rfl, s6, hm6, hd6, ho6, hst6⟩ ⟨rfl, e2⟩
      obtain ⟨dd, g1, g2⟩ := DpAll.atV hd6 e2
      obtain ⟨⟨wd, p1, b2⟩, eq, rfl⟩ := map_at g1
      obtain ⟨u2, rfl, hu2⟩ := dp_encD g2
      refine ⟨u2, _, rfl, hu2, rfl, _, _, rfl, _, _, rfl, _, _, rfl, rfl, ?_⟩
      obtain ⟨mm, fs1, nn, deed, e1, hcur, hnn, hnext, hcase⟩ := turn_at eq
      cases (show p1 = (mm : Int) from e1)
      rw [hcur] at hst6
      obtain ⟨t, f1, r1, e3, ht, hf, hrd⟩ := stepD_dp hst6
      cases e3
      refine ⟨_, rfl, _, _, _, _, true, rfl, .ty "tuple", tyx_tup ht, kit_tup, true, rfl, ?_⟩
      refine iteF ⟨_, rfl, t, _, rfl, .inr ht, rfl, _, rfl, ?_⟩
      rw [len4]
      refine iteF ⟨_, rfl, t, _, _, _, rfl, rfl, ht, rfl, _, rfl, rfl, _, rfl, ?_⟩
      rw [ne_same]
      refine iteF ?_
      have hfin : ∀ z ∈ fs1, z ∈ es.map (·.1) := by
        rcases hcase with ⟨_, _, _, e, _⟩ | ⟨_, _, _, e, _⟩
        · intro z hz
          rw [e] at hz
          exact hp.ins z (List.mem_of_mem_take hz)
        · intro z hz
          rw [e] at hz
          exact hg.ins z (List.mem_of_mem_take hz)
      have hfl : fs1.length ≤ 25000 := by
        rcases hcase with ⟨_, _, _, e, _⟩ | ⟨_, _, _, e, _⟩ <;> rw [e, List.length_take] <;> omega
      have hf9 : ∀ z ∈ fs1, z.natAbs < 64 := fun z hz => hb9 z (by rw [← hk]; exact hfin z hz)
      refine ⟨fun σ' H' => σ' = [some (.ref a), some (.ref b), some (.ref d), some (.int (cW es pr go : Nat)), some (.ref m), some (.ref o), some (.int (mm : Nat)), some (.int b2), some (.ref t), some (.int (cW es pr go + (i + 1 - nL es pr go) : Nat)), some (.str wd), none, none] ∧
        Same H H' ∧ H' m = some (.lst xs) ∧ DpAll K H' xs ((deedsM (winds es pr) (winds es go)).map encD) ∧ H' o = some (.lst ((bs (winds es fs1)).map V.int)) ∧ Dp K H' (.ref t) (stepD wd deed fs1 go nn), ?_, ?_⟩
      · rcases hcase with ⟨rfl, hi1, rfl, rfl, hml, rfl, hmem, hs1, hs2⟩ | ⟨rfl, hi1, rfl, rfl, hml, rfl, hmem, hs1, hs2⟩
        · refine ⟨_, rfl, rfl, _, rfl, ?_⟩
          rw [decS, decide_eq_true rfl]
          refine iteT ?_
          have ho6' : H6 o = some (.lst ((stand es pr go (i + 1)).map V.int ++ [V.int b2])) := by
            rw [ho6, hs1, List.map_append]
            rfl
          refine ⟨_, rfl, .inl ⟨rfl, _, .inl (.inl ho6')⟩, o, _, .int b2, rfl, rfl, ho6', by simp, _, rfl, rfl, _, rfl, ?_⟩
          rw [ne_same, List.dropLast_concat]
          refine iteF ?_
          have sq := same_put (o := .lst ((stand es pr go (i + 1)).map V.int)) s6 hoH
          have kt : ∀ a xs, SqT K H6 a xs → SqT K (upd H6 o (.lst ((stand es pr go (i + 1)).map V.int))) a xs := fun a xs q => sqt_put ho6' q
          have hst7 := dp_keep kt _ _ (flat_step _ _ _ _ _) hst6
          have hd7 := dps_keep kt _ _ (flatDs_of _ fun z hz => by obtain ⟨y, _, rfl⟩ := List.mem_map.mp hz; rfl) hd6
          have hm7 : (upd H6 o (.lst ((stand es pr go (i + 1)).map V.int))) m = some (.lst xs) := by rw [upd_ne hmo]; exact hm6
          have ho7 : (upd H6 o (.lst ((stand es pr go (i + 1)).map V.int))) o = some (.lst ((stand es pr go (i + 1)).map V.int)) := upd_same
          generalize (upd H6 o (.lst ((stand es pr go (i + 1)).map V.int))) = H7 at sq hst7 hd7 hm7 ho7
          have b2s := hsm b2 (by rw [← hk]; exact hp.ins b2 hmem)
          have sm := sm_step (w := "leave") (.inr (.inl rfl)) b2s.2 hf9 hfl hg9 lg (n := 0) (by decide)
          have q1 := sm.rok (by decide) (by decide) (K := K) (.inl hst7)
          refine ⟨_, rfl, _, _, rfl, q1.1, q1.2.1, q1.2.2.1, q1.2.2.2, ?_⟩
          refine ⟨_, rfl, _, _, rfl, rfl, _, rfl, _, rfl, _, rfl, ?_⟩
          refine sl_to (k := mm) (sqt_same sq hp.fr) (by rw [List.length_map]; omega) fun t3 H8 s8 ht3 => ?_
          rw [← List.map_take] at ht3
          refine ⟨_, rfl, by show 3 ≤ sizeLine; decide, fun t4 ht4 => ⟨by show 4 ≤ sizeLine; decide, fun t5 ht5 => ?_⟩⟩
          have s9 := same_new (o := .tup [.str "to", .ref b, .int 0]) ht4
          have s10 := same_new (o := .tup [.str "leave", .int (2000 + b2), .ref t3, .ref t4]) ht5
          have s710 := s8.trans (s9.trans s10)
          have q2 := sm.rok (by decide) (by decide) (K := K) (H := upd (upd H8 t4 (.tup [.str "to", .ref b, .int 0])) t5 (.tup [.str "leave", .int (2000 + b2), .ref t3, .ref t4])) (x := .ref t5) (.inl (.tup (.inl (.inl upd_same)) (.cons (.str _) (.cons (.int _) (.cons (dp_encF (sqt_same (s9.trans s10) ht3))
              (.cons (.tup (.inl (.inl (s10 _ _ upd_same))) (.cons (.str _) (.cons (dp_encF (sqt_same (sq.trans s710) hg.fr)) (.cons (.int _) .nil)))) .nil))))))
          refine ⟨_, _, rfl, q2.1, q2.2.1, q2.2.2.1, q2.2.2.2, rfl, _, rfl, ?_⟩
          rw [ne_same]
          refine iteF ⟨?_, sq.trans s710, s710 _ _ hm7, dps_same s710 _ _ hd7, ?_, dp_same s710 _ _ hst7⟩
          · rw [show cW es pr go + (i + 1 - nL es pr go) = cW es pr go + (i - nL es pr go) by omega]
            rfl
          · rw [hs2]
            exact s710 _ _ ho7
        · refine ⟨_, rfl, rfl, _, rfl, ?_⟩
          rw [decS, decide_eq_false (show ¬ ("enter" : Str) = "leave" by decide +kernel)]
          refine iteF ⟨_, rfl, _, _, rfl, rfl, ?_⟩
          have b2s := hsm b2 (by rw [← hk]; exact hg.ins b2 hmem)
          have sm := sm_step (w := "enter") (.inr (.inr (.inl rfl))) b2s.1 hf9 hfl hg9 lg (n := (cW es pr go + (i - nL es pr go) + 1 : Nat)) (by omega)
          have q1 := sm.rok (by decide) (by decide) (K := K) (.inl hst6)
          refine ⟨_, rfl, _, _, rfl, q1.1, q1.2.1, q1.2.2.1, q1.2.2.2, ?_⟩
          refine ⟨_, rfl, _, _, rfl, rfl, _, rfl, _, rfl, _, rfl, ?_⟩
          refine sl_to (k := mm) (sqt_same s6 hg.fr) (by rw [List.length_map]; omega) fun t3 H8 s8 ht3 => ?_
          rw [← List.map_take] at ht3
          refine ⟨_, rfl, _, rfl, by show 3 ≤ sizeLine; decide, fun t4 ht4 => ⟨by show 4 ≤ sizeLine; decide, fun t5 ht5 => ?_⟩⟩
          have s9 := same_new (o := .tup [.str "to", .ref b, .int ((cW es pr go + (i - nL es pr go) : Nat) + 1)]) ht4
          have s10 := same_new (o := .tup [.str "enter", .int (1000 + b2), .ref t3, .ref t4]) ht5
          have s710 := s8.trans (s9.trans s10)
          have q2 := sm.rok (by decide) (by decide) (K := K) (H := upd (upd H8 t4 (.tup [.str "to", .ref b, .int ((cW es pr go + (i - nL es pr go) : Nat) + 1)])) t5 (.tup [.str "enter", .int (1000 + b2), .ref t3, .ref t4])) (x := .ref t5) (.inl (.tup (.inl (.inl upd_same)) (.cons (.str _) (.cons (.int _) (.cons (dp_encF (sqt_same (s9.trans s10) ht3))
              (.cons (.tup (.inl (.inl (s10 _ _ upd_same))) (.cons (.str _) (.cons (dp_encF (sqt_same (s6.trans s710) hg.fr)) (.cons (.int _) .nil)))) .nil))))))
          refine ⟨_, _, rfl, q2.1, q2.2.1, q2.2.2.1, q2.2.2.2, rfl, _, rfl, ?_⟩
          rw [ne_same]
          refine iteF ⟨?_, s6.trans s710, s710 _ _ hm6, dps_same s710 _ _ hd6, ?_, dp_same s710 _ _ hst6⟩
          · rw [show cW es pr go + (i + 1 - nL es pr go) = cW es pr go + (i - nL es pr go) + 1 by omega]
            rfl
          · rw [hs2]
            exact s710 _ _ ho6
      · rintro σ' H8 ⟨rfl, s8, hm8, hd8, ho8, hst8⟩
        obtain ⟨t', f', r', e4, ht8, hf8, hrd8⟩ := stepD_dp hst8
        cases e4
        refine ⟨_, rfl, t, _, _, _, rfl, rfl, ht8, rfl, _, rfl, f', d, fs1, es, kvs, rfl, ⟨hf8, hg.th.same s8, hfin, by omega⟩, fun t9 xs9 H9 s9 _ ht9 hd9 => ⟨t9, rfl, ⟨_, .inl (.inl ht9)⟩, fun D2 hD2 => ?_⟩⟩
        refine lc_births (K := K) ht9 hd9 (by have := winds_len es fs1; omega) hD2 (fun _ => rfl) (fun _ => rfl) fun H10 s10 hD10 => ?_
        have s810 := s9.trans s10
        have ho10 := s810 _ _ ho8
        refine ⟨_, rfl, _, _, .lst (.inl (.inl hD10)) (dpAll_ints _), .lst (.inl (.inl ho10)) (dpAll_ints _), PySem.W.shaped_ints _, PySem.W.shaped_ints _, _, rfl, ?_⟩
        rw [show ∀ l : List Int, (!PyData.eqv (.list (l.map PyData.int)) (.list (l.map PyData.int))) = false from fun l => by show (!PyData.eqvAll _ _) = false; rw [eqv_ints]; rfl]
        refine iteF ⟨_, rfl, rfl, _, rfl, ?_⟩
        rw [decS]
        have ht10 := sqt_same s810 ht8
        have hf10 := sqt_same s810 hf8
        have hrd10 := dp_same s810 _ _ hrd8
        have hm10 := s810 _ _ hm8
        have hd10 := dps_same s810 _ _ hd8
        have sH := s8.trans s810
        rcases hcase with ⟨rfl, hi1, rfl, rfl, hml, rfl, hmem, hs1, hs2⟩ | ⟨rfl, hi1, rfl, rfl, hml, rfl, hmem, hs1, hs2⟩
        · rw [decide_eq_false (show ¬ ("leave" : Str) = "enter" by decide +kernel)]
          refine iteF ?_
          rw [hs2] at ho10
          refine ⟨_, rfl, t, _, _, _, rfl, rfl, ht10, rfl, _, rfl, t, _, _, _, rfl, rfl, ht10, rfl, _, rfl, f', r', d, _, go, es, kvs, 0, rfl, ⟨hf10, hg.th.same sH, hfin, by omega⟩, hrd10, hg.ins, hg.len, hnn, fun v H12 s12 hv => ?_⟩
          rw [hnext] at hv
          exact ⟨_, _, _, v, rfl, sH.trans s12, s12 _ _ hm10, dps_same s12 _ _ hd10, s12 _ _ ho10, hv⟩
        · rw [decide_eq_true rfl]
          refine iteT ?_
          rw [hs2] at ho10
          have lst : (stand es pr go i).length ≤ 25000 := by
            have := congrArg List.length hs2
            unfold bs at this
            rw [List.length_map] at this
            have := winds_len es (go.take mm)
            omega
          refine ⟨_, rfl, .inl ⟨rfl, _, .inl (.inl ho10)⟩, _, rfl, o, _, _, rfl, rfl, ho10, by rw [List.length_map]; exact Nat.lt_of_le_of_lt lst (by decide), ?_⟩
          have kt : ∀ a xs, SqT K H10 a xs → SqT K (upd H10 o (.lst ((stand es pr go i).map V.int ++ [V.int b2]))) a xs := fun a xs q => sqt_put ho10 q
          have hm11 : (upd H10 o (.lst ((stand es pr go i).map V.int ++ [V.int b2]))) m = some (.lst xs) := by rw [upd_ne hmo]; exact hm10
          have hd11 := dps_keep kt _ _ (flatDs_of _ fun z hz => by obtain ⟨y, _, rfl⟩ := List.mem_map.mp hz; rfl) hd10
          have hrd11 := dp_keep kt _ _ (flat_road _ _) hrd10
          have ht11 := kt _ _ ht10
          have hf11 := kt _ _ hf10
          have sH11 := same_put (o := .lst ((stand es pr go i).map V.int ++ [V.int b2])) sH hoH
          have ho11 : (upd H10 o (.lst ((stand es pr go i).map V.int ++ [V.int b2]))) o = some (.lst ((stand es pr go (i + 1)).map V.int)) := by
            rw [upd_same, hs1, List.map_append]
            rfl
          generalize (upd H10 o (.lst ((stand es pr go i).map V.int ++ [V.int b2]))) = H11 at hm11 hd11 hrd11 ht11 hf11 sH11 ho11
          refine ⟨_, rfl, t, _, _, _, rfl, rfl, ht11, rfl, _, rfl, t, _, _, _, rfl, rfl, ht11, rfl, _, rfl, f', r', d, _, go, es, kvs, _, rfl, ⟨hf11, hg.th.same sH11, hfin, by omega⟩, hrd11, hg.ins, hg.len, hnn, fun v H12 s12 hv => ?_⟩
          rw [hnext] at hv
          exact ⟨_, _, _, v, rfl, sH11.trans s12, s12 _ _ hm11, dps_same s12 _ _ hd11, s12 _ _ ho11, hv⟩
    · rintro σ H6 ⟨v6, v7, v10, st6, rfl, s6, hm6, hd6, ho6, hst6⟩
      rw [lx, cur_end] at hst6
      have r1 := (sm_arrive hg9 lg).rok (by decide) (by decide) (K := K) (H := H6) (.inl hst6)
      refine ⟨_, rfl, _, _, rfl, r1.1, r1.2.1, r1.2.2.1, r1.2.2.2, ?_⟩
      refine ⟨_, rfl, by show 4 ≤ sizeLine; decide, fun t7 ht7 => ?_⟩
      have s7 := same_new (o := .tup [.str "arrive", .non, .ref b, .non]) ht7
      have r2 := (sm_arrive hg9 lg).rok (by decide) (by decide) (K := K) (H := upd H6 t7 (.tup [.str "arrive", .non, .ref b, .non])) (x := .ref t7) (.inl (.tup (.inl (.inl upd_same)) (.cons (.str _) (.cons .non (.cons (dp_encF (sqt_same (s6.trans s7) hg.fr)) (.cons .non .nil))))))
      refine ⟨_, _, rfl, r2.1, r2.2.1, r2.2.2.1, r2.2.2.2, rfl, ?_⟩
      rw [show ∀ x : V, decide (x = x) = true from fun x => by simp]
      exact k _ (s6.trans s7)
end
end K10

namespace K10
open PySem L2 Cm
def spLaw (K : PySem.W.Frag) : Sp := fun vs H Q _ => ∃ (a : Addr) (ns : List Int), vs = [.ref a] ∧ SqL K H a (ns.map V.int) ∧ ns.length ≤ 63 ∧ ∀ H', Q (.bl true) H'
def Bn : Nat → Nat
  | 0 => 25
  | n + 1 => 3 * Bn n + 6
theorem Bn5 : ∀ i ≤ 5, Bn i ≤ 10000 := by decide
theorem Bn6 : ∀ i ≤ 6, Bn i ≤ 25000 := by decide
theorem Bn_le (i : Nat) : Bn i ≤ Bn (i + 1) := by
  show _ ≤ 3 * Bn i + 6
  omega
theorem pos_bs {es : Things} {fs : List Int} {n : Nat} (h : ∀ b ∈ fs, b ∈ births n) : pos (bs (winds es fs)) := by
  intro z hz
  obtain ⟨p, hp, rfl⟩ := List.mem_map.mp hz
  rw [winds_F] at hp
  obtain ⟨i, _, _, h3, _⟩ := windsF_mem es fs 0 p hp
  have := births_mem.mp (h _ (List.mem_of_getElem? h3))
  omega
theorem deeds_len (l e : List (Int × Int)) : (deedsM l e).length ≤ l.length + e.length := by
  unfold deedsM
  rw [List.length_append, List.length_map, List.length_map, List.length_reverse, List.length_drop, List.length_drop]
  omega
theorem deeds_len5 {es : Things} {f1 f2 : List Int} (h1 : f1.length ≤ 25000) (h2 : f2.length ≤ 25000) : (deedsM (winds es f1) (winds es f2)).length ≤ 50000 := by
  have := deeds_len (winds es f1) (winds es f2)
  have := winds_len es f1
  have := winds_len es f2
  omega
theorem ne_ints (l : List Int) : (!PyData.eqv (.list (l.map PyData.int)) (.list (l.map PyData.int))) = false := by
  show (!PyData.eqvAll _ _) = false
  rw [eqv_ints]
  rfl
section
variable {P : Program} {w : World} {K : PySem.W.Frag} {mg : Str → Option Value} {base : Heap}
abbrev s_law : Stmt := top 22
abbrev N_law : List Str := ["_law_script", "_law_hand_here", "_law_turn", "_law_things_here", "_law_kept", "_law_chain", "_law_k", "_law_near_here", "_law_signs_here", "_law_present", "_law_goal"]
theorem sc_law : FnScope N_law ["_law_script"] (defScope s_law) := ⟨rfl, rfl, rfl, by decide +kernel, rfl, by decide +kernel, by decide +kernel⟩
structure Cls10 (P : Program) (w : World) (K : PySem.W.Frag) (mg : Str → Option Value) (base : Heap) : Prop where
  hand : Cl P w K mg base 1 "_law_hand" (spHand K)
  draw : Cl P w K mg base 2 "_law_draw" spDraw
  pick : Cl P w K mg base 3 "_law_pick" (spPick K)
  things : Cl P w K mg base 4 "_law_things" (spThings K)
  row : Cl P w K mg base 4 "_law_row" (spRow K)
  near : Cl P w K mg base 5 "_law_near" (spNear K)
  deeds : Cl P w K mg base 2 "_law_deeds" (spDeedsL K)
  signs : Cl P w K mg base 1 "_law_signs" (spSigns K)
  struck : Cl P w K mg base 1 "_law_struck" (spStruck K)
  walk : ClG P w K mg base 5 "_law_walk" (spWalk K)
  p_deeds : Cl P w K mg base 2 "deeds_of_way" (spDeeds K)
theorem ok_law {f : Addr} {fd : FuncData} (T : Txt mg) (C : Cls10 P w K mg base) (F : Fun K "law" "law" s_law f fd) : LawAt P w K mg base 6 f fd ["_law_script"] (spLaw K) := by
  have c_l_hand := C.hand
  have c_l_draw := C.draw
  have c_l_pick := C.pick
  have c_l_things := C.things
  have c_l_row := C.row
  have c_l_near := C.near
  have c_l_deeds := C.deeds
  have c_l_signs := C.signs
  have c_l_struck := C.struck
  have c_l_walk := C.walk
  have c_p_deeds_of_way := C.p_deeds
  refine lawAt_of F sc_law (fun vs H Q E h => ?_) fun cdv A outer s H vs Q E hg hr h => ?_
  · obtain ⟨a, ns, rfl, _⟩ := h
    rfl
  · obtain ⟨a, ns, rfl, hS, hlen, k⟩ := h
    have hgd : (A.deeper (PyProof.Rows.envOfC "law" (defScope s_law) s.heap.objs.size f cdv)).guards = some [] := hg
    refine ⟨_, (pss_cons (ps_set (i := 1) sc_law.nd rfl (Or.inl rfl) (pe_c c_l_hand hr (by decide) (by rfl) (pa_cons (pv 0) pa_nil)))
      (pss_cons (ps_for PassesOwn.never rfl (pi_range1 (by rfl) T.range (pa_cons pe_int pa_nil)) (pg_name (i := 2) sc_law.nd rfl (Or.inl rfl))
        (pss_cons (ps_set (i := 3) sc_law.nd rfl (Or.inl rfl) (pe_c c_l_things hr (by decide) (by rfl) (pa_cons (pv 1) (pa_cons (pe_op op_add pe_int (pe_c c_l_draw hr (by decide) (by rfl) (pa_cons (pv 1) (pa_cons pe_int pa_nil)))) pa_nil))))
        (pss_cons (ps_set (i := 4) sc_law.nd rfl (Or.inl rfl) (pe_callB (call_reprD hgd hr.units) (by rfl) T.repr (by decide +kernel) (pa_cons (pv 3) pa_nil)))
        (pss_cons (ps_set (i := 5) sc_law.nd rfl (Or.inl rfl) (pe_lst (pa_cons (pe_c c_l_row hr (by decide) (by rfl) (pa_cons (pv 1) (pa_cons (pv 3) (pa_cons (pe_c c_l_pick hr (by decide) (by rfl) (pa_cons (pv 1) (pa_cons (pe_lst (pa_cons pe_int (pa_cons pe_int (pa_cons pe_int pa_nil)))) pa_nil))) pa_nil)))) pa_nil)))
        (pss_cons (ps_for PassesOwn.never rfl (pi_range1 (by rfl) T.range (pa_cons (pe_op op_add pe_int (pe_c c_l_draw hr (by decide) (by rfl) (pa_cons (pv 1) (pa_cons pe_int pa_nil)))) pa_nil)) (pg_name (i := 6) sc_law.nd rfl (Or.inl rfl))
          (pss_cons (ps_set (i := 7) sc_law.nd rfl (Or.inl rfl) (pe_c c_l_pick hr (by decide) (by rfl) (pa_cons (pv 1) (pa_cons (pv 5) pa_nil))))
          (pss_one (ps_expr (pe_bm PySem.F.plainAttrs_list PySem.F.slot_list_append PySem.F.type_list_append mt_append (pv 5) (pa_cons (pe_ifExp (pt_cmpR op_gt (pe_c c_l_draw hr (by decide) (by rfl) (pa_cons (pv 1) (pa_cons pe_int pa_nil))) pe_int (nomark _)) (pe_c c_l_near hr (by decide) (by rfl) (pa_cons (pv 1) (pa_cons (pv 3) (pa_cons (pv 7) pa_nil)))) (pe_c c_l_row hr (by decide) (by rfl) (pa_cons (pv 1) (pa_cons (pv 3) (pa_cons pe_int pa_nil))))) pa_nil))))))
        (pss_cons (ps_set (i := 8) sc_law.nd rfl (Or.inl rfl) (pe_lst pa_nil))
        (pss_cons (ps_for PassesOwn.never rfl (pi_zip (by rfl) T.zip (pa_cons (pv 5) (pa_cons (pe_slice sl_list (pv 5) (po_some pe_int) po_none) pa_nil))) (pg_tup (by rfl) (pgs_cons (pg_name (i := 9) sc_law.nd rfl (Or.inl rfl)) (pgs_cons (pg_name (i := 10) sc_law.nd rfl (Or.inl rfl)) pgs_nil)))
          (pss_cons (ps_set (i := 8) sc_law.nd rfl (Or.inl rfl) (pe_op op_cat (pv 8) (pe_c c_l_signs hr (by decide) (by rfl) (pa_cons (pe_c c_p_deeds_of_way hr (by decide) (by rfl) (pa_cons (pv 9) (pa_cons (pv 10) (pa_cons (pv 3) pa_nil)))) pa_nil))))
          (pss_cons (ps_if (pt_cmpR (op_neD hr.units) (pe_c c_l_struck hr (by decide) (by rfl) (pa_cons (pv 8) pa_nil)) (pe_c c_l_signs hr (by decide) (by rfl) (pa_cons (pe_ix ix_tup (pe_c c_l_deeds hr (by decide) (by rfl) (pa_cons (pe_ix ix_list (pv 5) pe_int (fun _ _ => rfl)) (pa_cons (pv 10) (pa_cons (pv 3) pa_nil)))) pe_int (fun _ _ => rfl)) pa_nil)) (nomark _))
            (pss_one (ps_ret pe_bl))
            pss_nil)
          (pss_cons (ps_if (pt_cmpR (op_neD hr.units) (pe_c c_l_struck hr (by decide) (by rfl) (pa_cons (pv 8) pa_nil)) (pe_c c_l_signs hr (by decide) (by rfl) (pa_cons (pe_c c_p_deeds_of_way hr (by decide) (by rfl) (pa_cons (pe_ix ix_list (pv 5) pe_int (fun _ _ => rfl)) (pa_cons (pv 10) (pa_cons (pv 3) pa_nil)))) pa_nil)) (nomark _))
            (pss_one (ps_ret pe_bl))
            pss_nil)
          (pss_one (ps_if (pt_not (pt_val (pe_cG c_l_walk hgd hr (by decide) (by rfl) (pa_cons (pv 9) (pa_cons (pv 10) (pa_cons (pv 3) pa_nil))))))
            (pss_one (ps_ret pe_bl))
            pss_nil))))))
        (pss_one (ps_if (PW.pt (pw_or (pt_not (pt_val (pe_cG c_l_walk hgd hr (by decide) (by rfl) (pa_cons (pe_ix ix_list (pv 5) (pe_un un_neg pe_int) (fun _ _ => rfl)) (pa_cons (pe_ix ix_list (pv 5) pe_int (fun _ _ => rfl)) (pa_cons (pv 3) pa_nil)))))) (pw_or (pt_not (pt_val (pe_cG c_l_walk hgd hr (by decide) (by rfl) (pa_cons (pe_ix ix_list (pv 5) pe_int (fun _ _ => rfl)) (pa_cons (pe_ix ix_list (pv 5) pe_int (fun _ _ => rfl)) (pa_cons (pv 3) pa_nil)))))) (pw_or1 (pt_cmpR op_ne (pe_callB (call_reprD hgd hr.units) (by rfl) T.repr (by decide +kernel) (pa_cons (pv 3) pa_nil)) (pv 4) (nomark _))))))
          (pss_one (ps_ret pe_bl))
          pss_nil)))))))))
      (pss_one (ps_ret pe_bl)))), ?_⟩
    refine ⟨_, rfl, a, ns, rfl, hS, hlen, fun h c H1 s1 hn hcn hh1 => ?_⟩
    refine ⟨2, rfl, by decide, by decide, ?_⟩
    refine for_it (walk_upto (n := (2 : Int).toNat)) (fun i σ H' => ∃ v2 v3 v4 v5 v6 v7 v8 v9 v10 : Option V, σ = [some (.ref a), some (.ref h), v2, v3, v4, v5, v6, v7, v8, v9, v10] ∧ Hand H' h c)
      ⟨none, none, none, none, none, none, none, none, none, rfl, hh1⟩ (fun _ _ _ _ _ => trivial) ?_ (fun σ H' _ => k H')
    rintro i0 v σ H0 H2 hi ⟨v2, v3, v4, v5, v6, v7, v8, v9, v10, rfl, hh2⟩ ⟨rfl, rfl⟩
    -- things
    refine ⟨_, rfl, _, rfl, h, c, _, rfl, hh2, by decide, by decide, fun n H3 n0 n1 k3 hh3 => ⟨_, _, rfl, rfl, h, c, _, rfl, hh3, by omega, by omega, fun d es kvs H4 k4 hh4 hd ht4 hk => ?_⟩⟩
    obtain ⟨n, rfl⟩ : ∃ j : Nat, n = (j : Int) := ⟨n.toNat, by omega⟩
    have hnn : (1 + (n : Int)).toNat = n + 1 := by omega
    rw [hnn] at hk
    -- kept
    have r4 := ht4.rok hk (by omega)
    refine ⟨_, rfl, _, _, rfl, r4.1, r4.2.1, r4.2.2.1, r4.2.2.2, ?_⟩
    -- the chain's first row
    refine ⟨_, rfl, _, rfl, _, rfl, by show 3 ≤ sizeLine; decide, fun l hl => ?_⟩
    have s5 := same_new (o := .lst [.int 5, .int 10, .int 25]) hl
    have hh5 := hh4.same s5
    refine ⟨h, c, l, _, rfl, hh5, .inl ⟨.inl (.inl upd_same), (hh4.there hl).1⟩, by simp, by show 3 ≤ 1000; decide, fun v H6 hv k6 hh6 => ?_⟩
    obtain ⟨most, rfl, hm0, hm1⟩ : ∃ m : Int, v = .int m ∧ 0 ≤ m ∧ m ≤ 25 := by
      rcases List.mem_cons.mp hv with rfl | hv
      · exact ⟨5, rfl, by decide, by decide⟩
      · rcases List.mem_cons.mp hv with rfl | hv
        · exact ⟨10, rfl, by decide, by decide⟩
        · cases List.mem_singleton.mp hv
          exact ⟨25, rfl, by decide, by decide⟩
    have dnh : ¬ d = h := hh4.ne (fun xs e => by rw [ht4.at_] at e; cases e)
    have ht6 := (ht4.same s5).kp k6 dnh
    refine ⟨h, c, d, most, es, kvs, n + 1, rfl, hh6, ht6, hk, by omega, by omega, hm0, by omega, fun pt fs H7 k7 hh7 hpt hfl hfs => ?_⟩
    have ht7 := ht6.kp k7 dnh
    refine ⟨by show 1 ≤ sizeLine; decide, fun L hL => ?_⟩
    have s8 := same_new (o := .lst [.ref pt]) hL
    have thL := hh7.there hL
    -- the chain grows
    refine ⟨_, rfl, h, c, _, rfl, hh7.same s8, by decide, by decide, fun q H8 q0 q1 k8 hh8 => ⟨_, _, rfl, rfl, _, rfl, by omega, by omega, ?_⟩⟩
    refine for_it (walk_upto (n := (1 + q).toNat)) (fun i σ H' => ∃ (v6 v7 : Option V) (cs : List (Addr × List Int)), σ = [some (.ref a), some (.ref h), some (.int (i0 : Nat)), some (.ref d), some (.str (PyData.dict (es.map fun e => (PyData.int e.1, e.2))).shown), some (.ref L), v6, v7, v8, v9, v10] ∧
        Kh h H7 H' ∧ Hand H' h c ∧ H' L = some (.lst (cs.map fun x => V.ref x.1)) ∧ cs ≠ [] ∧ cs.length ≤ i + 1 ∧ ∀ x ∈ cs, SqT K H' x.1 (x.2.map V.int) ∧ x.2.length ≤ Bn i ∧ ∀ b ∈ x.2, b ∈ births (n + 1))
      ⟨v6, v7, [(pt, fs)], rfl, (hh7.kh s8).trans k8, hh8, k8.st _ _ thL.1 upd_same, by simp, by simp, ?_⟩ (fun _ _ _ _ _ => trivial) ?_ ?_
    · intro x hx
      cases List.mem_singleton.mp hx
      exact ⟨k8.tup (sqt_same s8 hpt), by show fs.length ≤ 25; omega, hfs⟩
    · rintro i x σ H9a H9 hi1 ⟨v6', v7', cs, rfl, k9, hh9, hL9, hne, hlc, hcs⟩ ⟨rfl, rfl⟩
      have hi5 : i ≤ 5 := by omega
      refine ⟨_, rfl, _, rfl, h, c, L, _, rfl, hh9, .inl ⟨.inl (.inl hL9), thL.1⟩, by simpa using hne, by rw [List.length_map]; omega, fun v H10 hv k10 hh10 => ?_⟩
      obtain ⟨y, hy, rfl⟩ := List.mem_map.mp hv
      obtain ⟨hy1, hy2, hy3⟩ := hcs y hy
      have hL10 := k10.st _ _ thL.1 hL9
      refine ⟨_, rfl, .inl ⟨rfl, _, .inl (.inl hL10)⟩, _, rfl, h, c, _, rfl, hh10, by decide, by decide, fun q2 H11 q20 q21 k11 hh11 => ⟨_, _, rfl, rfl, _, rfl, ?_⟩⟩
      have k911 := (k9.trans k10).trans k11
      have ht11 := ht7.kp k911 dnh
      have fin : ∀ (t : Addr) (gs : List Int) (H12 : Hp), Kh h H11 H12 → Hand H12 h c → SqT K H12 t (gs.map V.int) → gs.length ≤ Bn (i + 1) → (∀ b ∈ gs, b ∈ births (n + 1)) →
          ∃ ws ys z, V.ref L = V.ref ws ∧ [V.ref t] = [z] ∧ H12 ws = some (.lst ys) ∧ ys.length < sizeLine ∧
            ∃ (v6'' v7'' : Option V) (cs2 : List (Addr × List Int)), [some (.ref a), some (.ref h), some (.int (i0 : Nat)), some (.ref d), some (.str (PyData.dict (es.map fun e => (PyData.int e.1, e.2))).shown), some (.ref L), some (V.int (i : Nat)), some (.ref y.1), v8, v9, v10] =
                [some (.ref a), some (.ref h), some (.int (i0 : Nat)), some (.ref d), some (.str (PyData.dict (es.map fun e => (PyData.int e.1, e.2))).shown), some (.ref L), v6'', v7'', v8, v9, v10] ∧
              Kh h H7 (upd H12 ws (.lst (ys ++ [z]))) ∧ Hand (upd H12 ws (.lst (ys ++ [z]))) h c ∧ (upd H12 ws (.lst (ys ++ [z]))) L = some (.lst (cs2.map fun x => V.ref x.1)) ∧ cs2 ≠ [] ∧ cs2.length ≤ i + 1 + 1 ∧
                ∀ x ∈ cs2, SqT K (upd H12 ws (.lst (ys ++ [z]))) x.1 (x.2.map V.int) ∧ x.2.length ≤ Bn (i + 1) ∧ ∀ b ∈ x.2, b ∈ births (n + 1) := by
        intro t gs H12 k12 hh12 ht12 hl12 hg12
        have hL12 := k12.st _ _ thL.1 (k11.st _ _ thL.1 hL10)
        refine ⟨L, _, _, rfl, rfl, hL12, ?_, _, _, cs ++ [(t, gs)], rfl, (k911.trans k12).mut hL, hh12.puts thL.1 thL.2, ?_, by simp, by rw [List.length_append]; exact Nat.succ_le_succ hlc, fun x hx => ?_⟩
        · rw [List.length_map]
          exact Nat.lt_of_le_of_lt (show cs.length ≤ 1000 by omega) (by decide)
        · rw [upd_same, List.map_append]
          rfl
        · rcases List.mem_append.mp hx with e | e
          · obtain ⟨g1, g2, g3⟩ := hcs x e
            exact ⟨sqt_put hL12 (k12.tup (k11.tup (k10.tup g1))), Nat.le_trans g2 (Bn_le i), g3⟩
          · cases List.mem_singleton.mp e
            exact ⟨sqt_put hL12 ht12, hl12, hg12⟩
      have hB := Bn5 i hi5
      refine ite2 (fun _ => ?_) (fun _ => ?_)
      · exact ⟨_, rfl, _, rfl, _, rfl, h, c, d, y.1, es, kvs, n + 1, y.2, rfl, hh11, ht11, hk, by omega, by omega, k11.tup (k10.tup hy1), by omega, hy3, fun t gs H12 k12 hh12 ht12 hl12 hg12 => fin t gs H12 k12 hh12 ht12 (by show _ ≤ 3 * Bn i + 6; omega) hg12⟩
      · exact ⟨_, rfl, _, rfl, h, c, d, 6, es, kvs, n + 1, rfl, hh11, ht11, hk, by omega, by omega, by decide, by decide, fun t gs H12 k12 hh12 ht12 hl12 hg12 => fin t gs H12 k12 hh12 ht12 (by show _ ≤ 3 * Bn i + 6; omega) hg12⟩
    · rintro σ H9 ⟨v6', v7', cs, rfl, k9, hh9, hL9, hne, hlc, hcs⟩
      obtain ⟨x0, cs', rfl⟩ := List.exists_cons_of_ne_nil hne
      have ht9 := ht7.kp k9 dnh
      have hB := Bn6 (1 + q).toNat (by omega)
      have rlen : ∀ x ∈ x0 :: cs', x.2.length ≤ 25000 := fun x hx => Nat.le_trans (hcs x hx).2.1 hB
      have row : ∀ x ∈ x0 :: cs', ∀ {H' : Hp}, Same H9 H' → Fr K H' x.1 d x.2 es kvs := fun x hx H' s => ⟨sqt_same s (hcs x hx).1, ht9.same s, by rw [hk]; exact (hcs x hx).2.2, rlen x hx⟩
      have rpos : ∀ x ∈ x0 :: cs', pos (bs (winds es x.2)) := fun x hx => pos_bs (hcs x hx).2.2
      have m0 : x0 ∈ x0 :: cs' := List.mem_cons_self
      refine ⟨Nat.zero_le _, fun S hS => ?_⟩
      have sS := same_new (o := .lst []) hS
      refine ⟨_, rfl, _, rfl, _, rfl, L, _, rfl, .inl (.inl (sS _ _ hL9)), fun p hp => ?_⟩
      have ecut : cutV ((x0 :: cs').map fun x => V.ref x.1) (some 1) Option.none = cs'.map fun x => V.ref x.1 := by
        have := cut_from (xs := (x0 :: cs').map fun x => V.ref x.1) (k := 1) (by simp)
        exact this
      rw [ecut]
      have sp := same_new (o := .lst (cs'.map fun x => V.ref x.1)) hp
      refine ⟨L, p, _, _, rfl, .inl (.inl ((sS.trans sp) _ _ hL9)), .inl (.inl upd_same), ?_⟩
      have s10 := sS.trans sp
      have hS10 := sp _ _ (show (upd H9 S (.lst [])) S = some (.lst []) from upd_same)
      have hp10 : (upd (upd H9 S (.lst [])) p (.lst (cs'.map fun x => V.ref x.1))) p = some (.lst (cs'.map fun x => V.ref x.1)) := upd_same
      generalize (upd (upd H9 S (.lst [])) p (.lst (cs'.map fun x => V.ref x.1))) = H10 at s10 hS10 hp10
      have hL10 := s10 _ _ hL9
      refine for_it (walk_zip (xs := (x0 :: cs').map fun x => V.ref x.1) (ys := cs'.map fun x => V.ref x.1) rfl) (fun j σ H' => ∃ (v9 v10 : Option V) (S' : Addr) (sg : List Int), σ = [some (.ref a), some (.ref h), some (.int (i0 : Nat)), some (.ref d), some (.str (PyData.dict (es.map fun e => (PyData.int e.1, e.2))).shown), some (.ref L), v6', v7', some (.ref S'), v9, v10] ∧
          Same H10 H' ∧ H' S' = some (.lst (sg.map V.int)) ∧ sg.length ≤ j * 50000 ∧ ∃ x, (x0 :: cs')[j]? = some x ∧ sg.foldl pushM [] = redM (bs (winds es x0.2)) (bs (winds es x.2)))
        ⟨v9, v10, S, [], rfl, Same.refl _, hS10, Nat.zero_le _, x0, rfl, (redM_self _).symm⟩ (fun i σ H' _ z => ?_) ?_ ?_
      · obtain ⟨_, _, _, _, _, q, _⟩ := z
        exact ⟨.inl (.inl (q _ _ hL10)), .inl (.inl (q _ _ hp10))⟩
      · rintro j v σ H11 H12 hj ⟨v9', v10', S', sg, rfl, s11, hS11, hsg, x, ex, efold⟩ ⟨T1, y1, y2, rfl, hT, rfl, e1, e2⟩
        have mx : x ∈ x0 :: cs' := List.mem_of_getElem? ex
        obtain ⟨x', ex', rfl⟩ := map_at e1
        rw [ex] at ex'
        cases ex'
        obtain ⟨g, eg, rfl⟩ := map_at e2
        have eg' : (x0 :: cs')[j + 1]? = some g := eg
        have mg' : g ∈ x0 :: cs' := List.mem_of_getElem? eg'
        have hjl : j ≤ 10 := by
          have := (List.getElem?_eq_some_iff.mp ex).1
          omega
        have sT := same_new (o := .tup [.ref x.1, .ref g.1]) hT
        refine ⟨T1, _, rfl, .inl (.inl upd_same), rfl, _, _, rfl, _, _, rfl, rfl, ?_⟩
        have s12 := s11.trans sT
        have s912 := s10.trans s12
        -- the signs
        refine ⟨_, rfl, _, rfl, _, rfl, _, rfl, x.1, g.1, d, x.2, g.2, es, kvs, rfl, row x mx s912, row g mg' s912, fun t xs H13 s13 ht hd => ⟨t, xs, _, rfl, .inr ht, hd, deeds_len5 (rlen x mx) (rlen g mg'), fun m H14 s14 _ hm => ?_⟩⟩
        have s1214 := sT.trans (s13.trans s14)
        have sgl : (sgM (deedsM (winds es x.2) (winds es g.2))).length ≤ 50000 := by
          unfold sgM
          rw [List.length_map]
          exact deeds_len5 (rlen x mx) (rlen g mg')
        refine ⟨S', m, _, _, rfl, rfl, s1214 _ _ hS11, hm, ?_, fun Z hZ => ?_⟩
        · rw [List.length_map, List.length_map]
          exact Nat.le_trans (show sg.length + (sgM (deedsM (winds es x.2) (winds es g.2))).length ≤ 1000000 by omega) (by decide)
        rw [← List.map_append]
        have sZ := same_new (o := .lst ((sg ++ sgM (deedsM (winds es x.2) (winds es g.2))).map V.int)) hZ
        have hZ1 : (upd H14 Z (.lst ((sg ++ sgM (deedsM (winds es x.2) (winds es g.2))).map V.int))) Z = some (.lst ((sg ++ sgM (deedsM (winds es x.2) (winds es g.2))).map V.int)) := upd_same
        have s15 := (s12.trans (s13.trans s14)).trans sZ
        have efold2 : (sg ++ sgM (deedsM (winds es x.2) (winds es g.2))).foldl pushM [] = redM (bs (winds es x0.2)) (bs (winds es g.2)) := by
          rw [List.foldl_append, efold]
          exact fold_deeds (rpos x0 m0) (rpos x mx) (rpos g mg')
        have hsg2 : (sg ++ sgM (deedsM (winds es x.2) (winds es g.2))).length ≤ (j + 1) * 50000 := by
          rw [List.length_append]
          omega
        generalize (upd H14 Z (.lst ((sg ++ sgM (deedsM (winds es x.2) (winds es g.2))).map V.int))) = H15 at hZ1 s15
        generalize (sg ++ sgM (deedsM (winds es x.2) (winds es g.2))) = sg2 at hZ1 efold2 hsg2
        have est : struckM sg2 = sgM (deedsM (winds es x0.2) (winds es g.2)) := by
          unfold struckM
          rw [efold2, red_sg]
        have s915 := s10.trans s15
        -- by the law's own deeds
        refine ⟨_, rfl, Z, sg2, rfl, .inl (.inl hZ1), by omega, fun m1 H16 s16 _ hm1 => ?_⟩
        have s916 := s915.trans s16
        refine ⟨_, rfl, L, _, _, _, rfl, rfl, .inl (.inl ((s15.trans s16) _ _ hL10)), atI_nat (j := 0) rfl, _, rfl, _, rfl, x0.1, g.1, d, x0.2, g.2, es, kvs, rfl, row x0 m0 s916, row g mg' s916, fun t2 m2 xs2 H17 s17 ht2 _ hm2 hd2 => ?_⟩
        refine ⟨t2, _, _, _, rfl, rfl, ht2, rfl, m2, xs2, _, rfl, .inl (.inl (.inl hm2)), hd2, deeds_len5 (rlen x0 m0) (rlen g mg'), fun m3 H18 s18 _ hm3 => ?_⟩
        rw [est] at hm1
        refine ⟨_, _, .lst (.inl (.inl ((s17.trans s18) _ _ hm1))) (dpAll_ints _), .lst (.inl (.inl hm3)) (dpAll_ints _), PySem.W.shaped_ints _, PySem.W.shaped_ints _, _, rfl, ?_⟩
        rw [ne_ints]
        refine iteF ?_
        have s1518 := s16.trans (s17.trans s18)
        have s918 := s915.trans s1518
        -- by the program's
        refine ⟨_, rfl, Z, sg2, rfl, .inl (.inl (s1518 _ _ hZ1)), by omega, fun m4 H19 s19 _ hm4 => ?_⟩
        have s919 := s918.trans s19
        refine ⟨_, rfl, L, _, _, _, rfl, rfl, .inl (.inl (((s15.trans s1518).trans s19) _ _ hL10)), atI_nat (j := 0) rfl, _, rfl, _, rfl, x0.1, g.1, d, x0.2, g.2, es, kvs, rfl, row x0 m0 s919, row g mg' s919, fun t5 xs5 H20 s20 ht5 hd5 => ?_⟩
        refine ⟨t5, xs5, _, rfl, .inr ht5, hd5, deeds_len5 (rlen x0 m0) (rlen g mg'), fun m6 H21 s21 _ hm6 => ?_⟩
        rw [est] at hm4
        refine ⟨_, _, .lst (.inl (.inl ((s20.trans s21) _ _ hm4))) (dpAll_ints _), .lst (.inl (.inl hm6)) (dpAll_ints _), PySem.W.shaped_ints _, PySem.W.shaped_ints _, _, rfl, ?_⟩
        rw [ne_ints]
        refine iteF ?_
        have s1521 := s1518.trans (s19.trans (s20.trans s21))
        have s921 := s915.trans s1521
        -- the walk
        refine ⟨_, rfl, _, rfl, _, rfl, x.1, g.1, d, x.2, g.2, es, kvs, n + 1, rfl, row x mx s921, row g mg' s921, rlen x mx, rlen g mg', hk, by omega, fun H22 s22 => ⟨true, rfl, ?_⟩⟩
        exact iteF ⟨_, _, Z, sg2, rfl, s15.trans (s1521.trans s22), (s1521.trans s22) _ _ hZ1, hsg2, g, eg', efold2⟩
      · rintro σ H11 ⟨v9', v10', S', sg, rfl, s11, _⟩
        have s911 := s10.trans s11
        obtain ⟨yl, el⟩ : ∃ yl, (x0 :: cs')[(x0 :: cs').length - 1]? = some yl := ⟨_, List.getElem?_eq_getElem (by simp)⟩
        have ml : yl ∈ x0 :: cs' := List.mem_of_getElem? el
        have elast : ∃ pre, (x0 :: cs').map (fun x => V.ref x.1) = pre ++ [V.ref yl.1] := by
          refine ⟨(x0 :: cs').dropLast.map (fun x => V.ref x.1), ?_⟩
          have e : x0 :: cs' = (x0 :: cs').dropLast ++ [yl] := by
            have h1 := (List.dropLast_concat_getLast (List.cons_ne_nil x0 cs')).symm
            have h2 : (x0 :: cs').getLast (List.cons_ne_nil x0 cs') = yl := by
              rw [List.getLast_eq_getElem]
              have := (List.getElem?_eq_some_iff.mp el).2
              exact this
            rw [h2] at h1
            exact h1
          conv => lhs; rw [e]
          rw [List.map_append]
          rfl
        obtain ⟨pre, epre⟩ := elast
        have at0 : atI ((x0 :: cs').map fun x => V.ref x.1) 0 = some (V.ref x0.1) := atI_nat (j := 0) rfl
        have atl : atI ((x0 :: cs').map fun x => V.ref x.1) (-1) = some (V.ref yl.1) := by
          rw [epre]
          exact atI_last _ _
        have hL11 := s11 _ _ hL10
        refine ⟨_, rfl, _, rfl, L, _, _, _, rfl, rfl, .inl (.inl hL11), atl, _, rfl, L, _, _, _, rfl, rfl, .inl (.inl hL11), at0, _, rfl, yl.1, x0.1, d, yl.2, x0.2, es, kvs, n + 1, rfl, row yl ml s911, row x0 m0 s911, rlen yl ml, rlen x0 m0, hk, by omega, fun H12 s12 => ⟨true, rfl, ?_⟩⟩
        refine iteF ?_
        have s912 := s911.trans s12
        have hL12 := s12 _ _ hL11
        refine ⟨_, rfl, L, _, _, _, rfl, rfl, .inl (.inl hL12), at0, _, rfl, L, _, _, _, rfl, rfl, .inl (.inl hL12), at0, _, rfl, x0.1, x0.1, d, x0.2, x0.2, es, kvs, n + 1, rfl, row x0 m0 s912, row x0 m0 s912, rlen x0 m0, rlen x0 m0, hk, by omega, fun H13 s13 => ⟨true, rfl, ?_⟩⟩
        refine iteF ?_
        have s913 := s912.trans s13
        have re := (ht9.same s913).rok hk (by omega)
        refine ⟨_, rfl, _, _, rfl, re.1, re.2.1, re.2.2.1, re.2.2.2, _, rfl, rfl, _, rfl, ?_⟩
        rw [ne_same]
        exact iteF ⟨_, _, _, _, _, _, _, _, _, rfl, hh9.same s913⟩
end
end K10

namespace K10
open PySem L2 Cm
theorem at_mk {K : PySem.W.Frag} {h : Heap} {mg : Str → Option Value} {x : Str} {st : Stmt} {ps : List Str} {f : Addr} {oc : Value} {od an : Option Addr} {osl : Array (Option Value)} {kV doc pm cdv ct : Value} (X : K.In h) (G : h.Ns mainGlobals mg)
    (a : PySem.W.nsIn K mainGlobals x = some (some (.ref f))) (l : K.lookup f = some ⟨oc, od, .func (PySem.W.fnOf x x (defArgs st) (defBody st) (defScope st) .none kV doc pm an cdv ct), osl⟩) (c : PySem.W.codeIn K cdv x = true) (k : PySem.W.keepIn K (.ref f) = true)
    (b : ∀ (kV doc pm : Value) (an : Option Addr) (cdv ct : Value) (us : List Value), us.length = ps.length → bindArgs (PySem.W.fnOf x x (defArgs st) (defBody st) (defScope st) .none kV doc pm an cdv ct) ⟨us, []⟩ = pure (ps.zip us)) : At K mg x st ps :=
  ⟨_, _, fun_mk l c k, PySem.W.mg_of X G a, (fun_mk l c k).binds b⟩
theorem all_mk {l : PySem.W.OpenLaw} {w : World} {K : PySem.W.Frag} {h : Heap} {mg : Str → Option Value} {fa f0 f1 f2 f3 f4 f5 f6 f7 f8 f9 f10 f11 f12 f13 f14 f15 f16 f17 f18 f19 : Addr} (X : K.In h) (G : h.Ns mainGlobals mg) (hfa : mg "law" = some (.ref fa))
    {od0 an0 : Option Addr} {sl0 : Array (Option Value)} {oc0 kV0 dc0 pm0 cd0 ct0 : Value} (a0 : PySem.W.nsIn K mainGlobals "_law_mix" = some (some (.ref f0))) (l0 : K.lookup f0 = some ⟨oc0, od0, .func (PySem.W.fnOf "_law_mix" "_law_mix" (defArgs s_l_mix) (defBody s_l_mix) (defScope s_l_mix) .none kV0 dc0 pm0 an0 cd0 ct0), sl0⟩) (c0 : PySem.W.codeIn K cd0 "_law_mix" = true) (k0 : PySem.W.keepIn K (.ref f0) = true)
    {od1 an1 : Option Addr} {sl1 : Array (Option Value)} {oc1 kV1 dc1 pm1 cd1 ct1 : Value} (a1 : PySem.W.nsIn K mainGlobals "_law_hand" = some (some (.ref f1))) (l1 : K.lookup f1 = some ⟨oc1, od1, .func (PySem.W.fnOf "_law_hand" "_law_hand" (defArgs s_l_hand) (defBody s_l_hand) (defScope s_l_hand) .none kV1 dc1 pm1 an1 cd1 ct1), sl1⟩) (c1 : PySem.W.codeIn K cd1 "_law_hand" = true) (k1 : PySem.W.keepIn K (.ref f1) = true)
    {od2 an2 : Option Addr} {sl2 : Array (Option Value)} {oc2 kV2 dc2 pm2 cd2 ct2 : Value} (a2 : PySem.W.nsIn K mainGlobals "_law_draw" = some (some (.ref f2))) (l2 : K.lookup f2 = some ⟨oc2, od2, .func (PySem.W.fnOf "_law_draw" "_law_draw" (defArgs s_l_draw) (defBody s_l_draw) (defScope s_l_draw) .none kV2 dc2 pm2 an2 cd2 ct2), sl2⟩) (c2 : PySem.W.codeIn K cd2 "_law_draw" = true) (k2 : PySem.W.keepIn K (.ref f2) = true)
    {od3 an3 : Option Addr} {sl3 : Array (Option Value)} {oc3 kV3 dc3 pm3 cd3 ct3 : Value} (a3 : PySem.W.nsIn K mainGlobals "_law_pick" = some (some (.ref f3))) (l3 : K.lookup f3 = some ⟨oc3, od3, .func (PySem.W.fnOf "_law_pick" "_law_pick" (defArgs s_l_pick) (defBody s_l_pick) (defScope s_l_pick) .none kV3 dc3 pm3 an3 cd3 ct3), sl3⟩) (c3 : PySem.W.codeIn K cd3 "_law_pick" = true) (k3 : PySem.W.keepIn K (.ref f3) = true)
    {od4 an4 : Option Addr} {sl4 : Array (Option Value)} {oc4 kV4 dc4 pm4 cd4 ct4 : Value} (a4 : PySem.W.nsIn K mainGlobals "_law_things" = some (some (.ref f4))) (l4 : K.lookup f4 = some ⟨oc4, od4, .func (PySem.W.fnOf "_law_things" "_law_things" (defArgs s_l_things) (defBody s_l_things) (defScope s_l_things) .none kV4 dc4 pm4 an4 cd4 ct4), sl4⟩) (c4 : PySem.W.codeIn K cd4 "_law_things" = true) (k4 : PySem.W.keepIn K (.ref f4) = true)
    {od5 an5 : Option Addr} {sl5 : Array (Option Value)} {oc5 kV5 dc5 pm5 cd5 ct5 : Value} (a5 : PySem.W.nsIn K mainGlobals "_law_row" = some (some (.ref f5))) (l5 : K.lookup f5 = some ⟨oc5, od5, .func (PySem.W.fnOf "_law_row" "_law_row" (defArgs s_l_row) (defBody s_l_row) (defScope s_l_row) .none kV5 dc5 pm5 an5 cd5 ct5), sl5⟩) (c5 : PySem.W.codeIn K cd5 "_law_row" = true) (k5 : PySem.W.keepIn K (.ref f5) = true)
    {od6 an6 : Option Addr} {sl6 : Array (Option Value)} {oc6 kV6 dc6 pm6 cd6 ct6 : Value} (a6 : PySem.W.nsIn K mainGlobals "winds_of" = some (some (.ref f6))) (l6 : K.lookup f6 = some ⟨oc6, od6, .func (PySem.W.fnOf "winds_of" "winds_of" (defArgs s_p_winds_of) (defBody s_p_winds_of) (defScope s_p_winds_of) .none kV6 dc6 pm6 an6 cd6 ct6), sl6⟩) (c6 : PySem.W.codeIn K cd6 "winds_of" = true) (k6 : PySem.W.keepIn K (.ref f6) = true)
    {od7 an7 : Option Addr} {sl7 : Array (Option Value)} {oc7 kV7 dc7 pm7 cd7 ct7 : Value} (a7 : PySem.W.nsIn K mainGlobals "_law_winds_of" = some (some (.ref f7))) (l7 : K.lookup f7 = some ⟨oc7, od7, .func (PySem.W.fnOf "_law_winds_of" "_law_winds_of" (defArgs s_l_winds_of) (defBody s_l_winds_of) (defScope s_l_winds_of) .none kV7 dc7 pm7 an7 cd7 ct7), sl7⟩) (c7 : PySem.W.codeIn K cd7 "_law_winds_of" = true) (k7 : PySem.W.keepIn K (.ref f7) = true)
    {od8 an8 : Option Addr} {sl8 : Array (Option Value)} {oc8 kV8 dc8 pm8 cd8 ct8 : Value} (a8 : PySem.W.nsIn K mainGlobals "_shared_many" = some (some (.ref f8))) (l8 : K.lookup f8 = some ⟨oc8, od8, .func (PySem.W.fnOf "_shared_many" "_shared_many" (defArgs s_p_shared_many) (defBody s_p_shared_many) (defScope s_p_shared_many) .none kV8 dc8 pm8 an8 cd8 ct8), sl8⟩) (c8 : PySem.W.codeIn K cd8 "_shared_many" = true) (k8 : PySem.W.keepIn K (.ref f8) = true)
    {od9 an9 : Option Addr} {sl9 : Array (Option Value)} {oc9 kV9 dc9 pm9 cd9 ct9 : Value} (a9 : PySem.W.nsIn K mainGlobals "deeds_of_way" = some (some (.ref f9))) (l9 : K.lookup f9 = some ⟨oc9, od9, .func (PySem.W.fnOf "deeds_of_way" "deeds_of_way" (defArgs s_p_deeds_of_way) (defBody s_p_deeds_of_way) (defScope s_p_deeds_of_way) .none kV9 dc9 pm9 an9 cd9 ct9), sl9⟩) (c9 : PySem.W.codeIn K cd9 "deeds_of_way" = true) (k9 : PySem.W.keepIn K (.ref f9) = true)
    {od10 an10 : Option Addr} {sl10 : Array (Option Value)} {oc10 kV10 dc10 pm10 cd10 ct10 : Value} (a10 : PySem.W.nsIn K mainGlobals "_law_deeds" = some (some (.ref f10))) (l10 : K.lookup f10 = some ⟨oc10, od10, .func (PySem.W.fnOf "_law_deeds" "_law_deeds" (defArgs s_l_deeds) (defBody s_l_deeds) (defScope s_l_deeds) .none kV10 dc10 pm10 an10 cd10 ct10), sl10⟩) (c10 : PySem.W.codeIn K cd10 "_law_deeds" = true) (k10 : PySem.W.keepIn K (.ref f10) = true)
    {od11 an11 : Option Addr} {sl11 : Array (Option Value)} {oc11 kV11 dc11 pm11 cd11 ct11 : Value} (a11 : PySem.W.nsIn K mainGlobals "_law_near" = some (some (.ref f11))) (l11 : K.lookup f11 = some ⟨oc11, od11, .func (PySem.W.fnOf "_law_near" "_law_near" (defArgs s_l_near) (defBody s_l_near) (defScope s_l_near) .none kV11 dc11 pm11 an11 cd11 ct11), sl11⟩) (c11 : PySem.W.codeIn K cd11 "_law_near" = true) (k11 : PySem.W.keepIn K (.ref f11) = true)
    {od12 an12 : Option Addr} {sl12 : Array (Option Value)} {oc12 kV12 dc12 pm12 cd12 ct12 : Value} (a12 : PySem.W.nsIn K mainGlobals "_step_to" = some (some (.ref f12))) (l12 : K.lookup f12 = some ⟨oc12, od12, .func (PySem.W.fnOf "_step_to" "_step_to" (defArgs s_p_step_to) (defBody s_p_step_to) (defScope s_p_step_to) .none kV12 dc12 pm12 an12 cd12 ct12), sl12⟩) (c12 : PySem.W.codeIn K cd12 "_step_to" = true) (k12 : PySem.W.keepIn K (.ref f12) = true)
    {od13 an13 : Option Addr} {sl13 : Array (Option Value)} {oc13 kV13 dc13 pm13 cd13 ct13 : Value} (a13 : PySem.W.nsIn K mainGlobals "next_step" = some (some (.ref f13))) (l13 : K.lookup f13 = some ⟨oc13, od13, .func (PySem.W.fnOf "next_step" "next_step" (defArgs s_p_next_step) (defBody s_p_next_step) (defScope s_p_next_step) .none kV13 dc13 pm13 an13 cd13 ct13), sl13⟩) (c13 : PySem.W.codeIn K cd13 "next_step" = true) (k13 : PySem.W.keepIn K (.ref f13) = true)
    {od14 an14 : Option Addr} {sl14 : Array (Option Value)} {oc14 kV14 dc14 pm14 cd14 ct14 : Value} (a14 : PySem.W.nsIn K mainGlobals "lay_on" = some (some (.ref f14))) (l14 : K.lookup f14 = some ⟨oc14, od14, .func (PySem.W.fnOf "lay_on" "lay_on" (defArgs s_p_lay_on) (defBody s_p_lay_on) (defScope s_p_lay_on) .none kV14 dc14 pm14 an14 cd14 ct14), sl14⟩) (c14 : PySem.W.codeIn K cd14 "lay_on" = true) (k14 : PySem.W.keepIn K (.ref f14) = true)
    {od15 an15 : Option Addr} {sl15 : Array (Option Value)} {oc15 kV15 dc15 pm15 cd15 ct15 : Value} (a15 : PySem.W.nsIn K mainGlobals "_step_off" = some (some (.ref f15))) (l15 : K.lookup f15 = some ⟨oc15, od15, .func (PySem.W.fnOf "_step_off" "_step_off" (defArgs s_p_step_off) (defBody s_p_step_off) (defScope s_p_step_off) .none kV15 dc15 pm15 an15 cd15 ct15), sl15⟩) (c15 : PySem.W.codeIn K cd15 "_step_off" = true) (k15 : PySem.W.keepIn K (.ref f15) = true)
    {od16 an16 : Option Addr} {sl16 : Array (Option Value)} {oc16 kV16 dc16 pm16 cd16 ct16 : Value} (a16 : PySem.W.nsIn K mainGlobals "_law_signs" = some (some (.ref f16))) (l16 : K.lookup f16 = some ⟨oc16, od16, .func (PySem.W.fnOf "_law_signs" "_law_signs" (defArgs s_l_signs) (defBody s_l_signs) (defScope s_l_signs) .none kV16 dc16 pm16 an16 cd16 ct16), sl16⟩) (c16 : PySem.W.codeIn K cd16 "_law_signs" = true) (k16 : PySem.W.keepIn K (.ref f16) = true)
    {od17 an17 : Option Addr} {sl17 : Array (Option Value)} {oc17 kV17 dc17 pm17 cd17 ct17 : Value} (a17 : PySem.W.nsIn K mainGlobals "_law_struck" = some (some (.ref f17))) (l17 : K.lookup f17 = some ⟨oc17, od17, .func (PySem.W.fnOf "_law_struck" "_law_struck" (defArgs s_l_struck) (defBody s_l_struck) (defScope s_l_struck) .none kV17 dc17 pm17 an17 cd17 ct17), sl17⟩) (c17 : PySem.W.codeIn K cd17 "_law_struck" = true) (k17 : PySem.W.keepIn K (.ref f17) = true)
    {od18 an18 : Option Addr} {sl18 : Array (Option Value)} {oc18 kV18 dc18 pm18 cd18 ct18 : Value} (a18 : PySem.W.nsIn K mainGlobals "_law_walk" = some (some (.ref f18))) (l18 : K.lookup f18 = some ⟨oc18, od18, .func (PySem.W.fnOf "_law_walk" "_law_walk" (defArgs s_l_walk) (defBody s_l_walk) (defScope s_l_walk) .none kV18 dc18 pm18 an18 cd18 ct18), sl18⟩) (c18 : PySem.W.codeIn K cd18 "_law_walk" = true) (k18 : PySem.W.keepIn K (.ref f18) = true)
    {od19 an19 : Option Addr} {sl19 : Array (Option Value)} {oc19 kV19 dc19 pm19 cd19 ct19 : Value} (a19 : PySem.W.nsIn K mainGlobals "law" = some (some (.ref f19))) (l19 : K.lookup f19 = some ⟨oc19, od19, .func (PySem.W.fnOf "law" "law" (defArgs s_law) (defBody s_law) (defScope s_law) .none kV19 dc19 pm19 an19 cd19 ct19), sl19⟩) (c19 : PySem.W.codeIn K cd19 "law" = true) (k19 : PySem.W.keepIn K (.ref f19) = true)
    (z_abs : PySem.W.nsIn K mainGlobals "abs" = some none)
    (z_enumerate : PySem.W.nsIn K mainGlobals "enumerate" = some none)
    (z_int : PySem.W.nsIn K mainGlobals "int" = some none)
    (z_len : PySem.W.nsIn K mainGlobals "len" = some none)
    (z_max : PySem.W.nsIn K mainGlobals "max" = some none)
    (z_min : PySem.W.nsIn K mainGlobals "min" = some none)
    (z_range : PySem.W.nsIn K mainGlobals "range" = some none)
    (z_repr : PySem.W.nsIn K mainGlobals "repr" = some none)
    (z_sorted : PySem.W.nsIn K mainGlobals "sorted" = some none)
    (z_tuple : PySem.W.nsIn K mainGlobals "tuple" = some none)
    (z_zip : PySem.W.nsIn K mainGlobals "zip" = some none)
    (z_isinstance : PySem.W.nsIn K mainGlobals "isinstance" = some none)
    : ∃ fd : FuncData, (∀ (s : Shared) (v : Value), BindsTo s fd ⟨[v], []⟩ [("_law_script", v)]) ∧ ∀ base : Heap, K.In base → base.Ns mainGlobals mg → LawAt l.prog w K mg base 6 fa fd ["_law_script"] (spLaw K) := by
  have e := hfa.symm.trans (PySem.W.mg_of X G a19)
  cases e
  have T : Txt mg := ⟨PySem.W.mg_none_of X G z_abs, PySem.W.mg_none_of X G z_enumerate, PySem.W.mg_none_of X G z_int, PySem.W.mg_none_of X G z_len, PySem.W.mg_none_of X G z_max, PySem.W.mg_none_of X G z_min, PySem.W.mg_none_of X G z_range, PySem.W.mg_none_of X G z_repr, PySem.W.mg_none_of X G z_sorted, PySem.W.mg_none_of X G z_tuple, PySem.W.mg_none_of X G z_zip⟩
  have D_mix := at_mk (st := s_l_mix) (ps := ["_law_number", "_law_turn"]) X G a0 l0 c0 k0 fun _ _ _ _ _ _ us hl => match us, hl with | [_, _], _ => rfl
  have D_hand := at_mk (st := s_l_hand) (ps := ["_law_script"]) X G a1 l1 c1 k1 fun _ _ _ _ _ _ us hl => match us, hl with | [_], _ => rfl
  have D_draw := at_mk (st := s_l_draw) (ps := ["_law_hand_here", "_law_many"]) X G a2 l2 c2 k2 fun _ _ _ _ _ _ us hl => match us, hl with | [_, _], _ => rfl
  have D_pick := at_mk (st := s_l_pick) (ps := ["_law_hand_here", "_law_things_here"]) X G a3 l3 c3 k3 fun _ _ _ _ _ _ us hl => match us, hl with | [_, _], _ => rfl
  have D_things := at_mk (st := s_l_things) (ps := ["_law_hand_here", "_law_many"]) X G a4 l4 c4 k4 fun _ _ _ _ _ _ us hl => match us, hl with | [_, _], _ => rfl
  have D_row := at_mk (st := s_l_row) (ps := ["_law_hand_here", "_law_things_here", "_law_most"]) X G a5 l5 c5 k5 fun _ _ _ _ _ _ us hl => match us, hl with | [_, _, _], _ => rfl
  have D_pw := at_mk (st := s_p_winds_of) (ps := ["frames", "things"]) X G a6 l6 c6 k6 fun _ _ _ _ _ _ us hl => match us, hl with | [_, _], _ => rfl
  have D_lw := at_mk (st := s_l_winds_of) (ps := ["_law_frames", "_law_things_here"]) X G a7 l7 c7 k7 fun _ _ _ _ _ _ us hl => match us, hl with | [_, _], _ => rfl
  have D_sm := at_mk (st := s_p_shared_many) (ps := ["left", "entered"]) X G a8 l8 c8 k8 fun _ _ _ _ _ _ us hl => match us, hl with | [_, _], _ => rfl
  have D_pd := at_mk (st := s_p_deeds_of_way) (ps := ["present", "goal", "things"]) X G a9 l9 c9 k9 fun _ _ _ _ _ _ us hl => match us, hl with | [_, _, _], _ => rfl
  have D_ld := at_mk (st := s_l_deeds) (ps := ["_law_present", "_law_goal", "_law_things_here"]) X G a10 l10 c10 k10 fun _ _ _ _ _ _ us hl => match us, hl with | [_, _, _], _ => rfl
  have D_ne := at_mk (st := s_l_near) (ps := ["_law_hand_here", "_law_things_here", "_law_frames"]) X G a11 l11 c11 k11 fun _ _ _ _ _ _ us hl => match us, hl with | [_, _, _], _ => rfl
  have D_st := at_mk (st := s_p_step_to) (ps := ["below", "frames", "number", "things"]) X G a12 l12 c12 k12 fun _ _ _ _ _ _ us hl => match us, hl with | [_, _, _, _], _ => rfl
  have D_ns := at_mk (st := s_p_next_step) (ps := ["below", "road", "things"]) X G a13 l13 c13 k13 fun _ _ _ _ _ _ us hl => match us, hl with | [_, _, _], _ => rfl
  have D_lo := at_mk (st := s_p_lay_on) (ps := ["below", "frames", "things"]) X G a14 l14 c14 k14 fun _ _ _ _ _ _ us hl => match us, hl with | [_, _, _], _ => rfl
  have D_so := at_mk (st := s_p_step_off) (ps := ["below", "things"]) X G a15 l15 c15 k15 fun _ _ _ _ _ _ us hl => match us, hl with | [_, _], _ => rfl
  have D_sg := at_mk (st := s_l_signs) (ps := ["_law_deeds_here"]) X G a16 l16 c16 k16 fun _ _ _ _ _ _ us hl => match us, hl with | [_], _ => rfl
  have D_sk := at_mk (st := s_l_struck) (ps := ["_law_signs_here"]) X G a17 l17 c17 k17 fun _ _ _ _ _ _ us hl => match us, hl with | [_], _ => rfl
  have D_wk := at_mk (st := s_l_walk) (ps := ["_law_present", "_law_goal", "_law_things_here"]) X G a18 l18 c18 k18 fun _ _ _ _ _ _ us hl => match us, hl with | [_, _, _], _ => rfl
  refine ⟨PySem.W.fnOf "law" "law" (defArgs s_law) (defBody s_law) (defScope s_law) .none kV19 dc19 pm19 an19 cd19 ct19, fun s v => .of_eq rfl, fun base _ _ => ?_⟩
  have c1 := ok_mix (P := l.prog) (w := w) (base := base) T D_mix
  have c2 := ok_draw T c1 D_draw
  have c3 := ok_pick T c2 D_pick
  have c4 := ok_row T c2 c3 D_row
  have c5 := ok_pwinds (P := l.prog) (w := w) (base := base) T D_pw
  have c6 := ok_shared_many (P := l.prog) (w := w) (base := base) T D_sm
  have c7 := ok_lwinds (P := l.prog) (w := w) (base := base) T D_lw
  have c8 := ok_pdeeds T c5 c6 D_pd
  have c9 := ok_ldeeds T c7 D_ld
  have c10 := ok_next T (ok_step_to T c5 c8 D_st) (no_lay_on D_lo) (no_step_off D_so) D_ns
  have c11 := ok_walk T (PySem.W.mg_none_of X G z_isinstance) c9 c7 c10 D_wk
  exact ok_law T ⟨ok_hand T D_hand, c2, c3, ok_things T c2 c3 D_things, c4, ok_near T c2 c4 D_ne, c9, ok_signs D_sg, ok_struck D_sk, c11, c8⟩ (fun_mk (st := s_law) l19 c19 k19)
theorem walk {l : PySem.W.OpenLaw} {q : Program} {loose : List Str} {XP : (Str → Option Value) → Heap → Prop} {YP : World → Heap → Prop} {d : DefRec} {K : Params → PySem.W.Frag} (hn : l.most = some 63) (hdf : d.params.defaults = [])
    (hY : ∀ (w : World) (h : Heap), YP w h → (K w.params).In h)
    (F : ∀ (w : World) (mg : Str → Option Value) (fa : Addr) (h : Heap), (K w.params).In h → h.Ns mainGlobals mg → mg d.name = some (.ref fa) →
      ∃ fd : FuncData, (∀ (s : Shared) (u : Value), BindsTo s fd ⟨[u], []⟩ [("_law_script", u)]) ∧ ∀ base : Heap, (K w.params).In base → base.Ns mainGlobals mg → LawAt l.prog w (K w.params) mg base 6 fa fd ["_law_script"] (spLaw (K w.params))) :
    PySem.W.WalkO q loose XP YP l.row.toRowW d [] (fun f vs => PySem.call f vs) :=
  walk_law (n := 63) (k := 6) (x := "_law_script") (sp := fun K => spLaw K) hn (by decide) hdf ⟨rfl, by decide, by decide⟩ hY F fun _ _ a ns hl _ hS => ⟨a, ns, rfl, hS, hl, fun _ => rfl⟩
end K10

open PySem PySem.W PyProof.Rows in
set_option maxRecDepth 100000 in
set_option maxHeartbeats 0 in
theorem PySem.Challenge.cw_goonagain_k10_whole_ways_joined_and_walk_holds : PySem.Challenge.rw_goonagain_k10_whole_ways_joined_and_walk.Holds := by
  w_on; o_law; k_head; (case hw => w_witness2)
  k_fill
  refine K10.walk (l := PySem.Challenge.rw_goonagain_k10_whole_ways_joined_and_walk) rfl rfl (fun w h Y => PySem.W.kIn_of Y) ?F
  case F =>
    intro w mg fa h KX G hmg
    refine' K10.all_mk KX G hmg ?a0 ?l0 ?c0 ?k0 ?a1 ?l1 ?c1 ?k1 ?a2 ?l2 ?c2 ?k2 ?a3 ?l3 ?c3 ?k3 ?a4 ?l4 ?c4 ?k4 ?a5 ?l5 ?c5 ?k5 ?a6 ?l6 ?c6 ?k6 ?a7 ?l7 ?c7 ?k7 ?a8 ?l8 ?c8 ?k8 ?a9 ?l9 ?c9 ?k9 ?a10 ?l10 ?c10 ?k10 ?a11 ?l11 ?c11 ?k11 ?a12 ?l12 ?c12 ?k12 ?a13 ?l13 ?c13 ?k13 ?a14 ?l14 ?c14 ?k14 ?a15 ?l15 ?c15 ?k15 ?a16 ?l16 ?c16 ?k16 ?a17 ?l17 ?c17 ?k17 ?a18 ?l18 ?c18 ?k18 ?a19 ?l19 ?c19 ?k19 ?z_abs ?z_enumerate ?z_int ?z_len ?z_max ?z_min ?z_range ?z_repr ?z_sorted ?z_tuple ?z_zip ?z_isinstance
    (case a0 => k_is)
    (case l0 => k_is)
    (case c0 => k_is)
    (case k0 => k_is)
    (case a1 => k_is)
    (case l1 => k_is)
    (case c1 => k_is)
    (case k1 => k_is)
    (case a2 => k_is)
    (case l2 => k_is)
    (case c2 => k_is)
    (case k2 => k_is)
    (case a3 => k_is)
    (case l3 => k_is)
    (case c3 => k_is)
    (case k3 => k_is)
    (case a4 => k_is)
    (case l4 => k_is)
    (case c4 => k_is)
    (case k4 => k_is)
    (case a5 => k_is)
    (case l5 => k_is)
    (case c5 => k_is)
    (case k5 => k_is)
    (case a6 => k_is)
    (case l6 => k_is)
    (case c6 => k_is)
    (case k6 => k_is)
    (case a7 => k_is)
    (case l7 => k_is)
    (case c7 => k_is)
    (case k7 => k_is)
    (case a8 => k_is)
    (case l8 => k_is)
    (case c8 => k_is)
    (case k8 => k_is)
    (case a9 => k_is)
    (case l9 => k_is)
    (case c9 => k_is)
    (case k9 => k_is)
    (case a10 => k_is)
    (case l10 => k_is)
    (case c10 => k_is)
    (case k10 => k_is)
    (case a11 => k_is)
    (case l11 => k_is)
    (case c11 => k_is)
    (case k11 => k_is)
    (case a12 => k_is)
    (case l12 => k_is)
    (case c12 => k_is)
    (case k12 => k_is)
    (case a13 => k_is)
    (case l13 => k_is)
    (case c13 => k_is)
    (case k13 => k_is)
    (case a14 => k_is)
    (case l14 => k_is)
    (case c14 => k_is)
    (case k14 => k_is)
    (case a15 => k_is)
    (case l15 => k_is)
    (case c15 => k_is)
    (case k15 => k_is)
    (case a16 => k_is)
    (case l16 => k_is)
    (case c16 => k_is)
    (case k16 => k_is)
    (case a17 => k_is)
    (case l17 => k_is)
    (case c17 => k_is)
    (case k17 => k_is)
    (case a18 => k_is)
    (case l18 => k_is)
    (case c18 => k_is)
    (case k18 => k_is)
    (case a19 => k_is)
    (case l19 => k_is)
    (case c19 => k_is)
    (case k19 => k_is)
    (case z_abs => k_is)
    (case z_enumerate => k_is)
    (case z_int => k_is)
    (case z_len => k_is)
    (case z_max => k_is)
    (case z_min => k_is)
    (case z_range => k_is)
    (case z_repr => k_is)
    (case z_sorted => k_is)
    (case z_tuple => k_is)
    (case z_zip => k_is)
    (case z_isinstance => k_is)
