import PyProof.Rows.All
import Wide.All
import OpenK.AllK
import Wide.FinOn
import HandS.ForMost
import HandS.Codes
import HandS.Wide
import HandS.TupAny
import HandS.Conv
import HandS.RevRange
import HandS.SortInts
import HandS.RaiseMore
import HandS.Style
import HandS.Walk
import HandS.Zip
import HandS.More
import KE.GoesEnum
import KE.GoesMore
import KE.KDictList
import KE.KDictSum
import HandS.IsInst
import PySem.Challenge.RW_goonagain_k24_rows_cut_into_blocks
set_option Elab.async false
set_option maxRecDepth 100000
set_option maxHeartbeats 4000000
/-! common part: what a call keeps, data, repr, the hand of draws -/
namespace Cm
open PySem L2

/-! ### what is kept but at the lists M -/
structure Kp (M : Addr → Prop) (H H' : Hp) : Prop where
  st : ∀ a o, ¬ M a → H a = some o → H' a = some o
  l1 : ∀ a, M a → ∃ xs, H a = some (.lst xs)
  l2 : ∀ a, M a → ∃ xs, H' a = some (.lst xs)
theorem Kp.trans {M : Addr → Prop} {H H1 H2 : Hp} (a : Kp M H H1) (b : Kp M H1 H2) : Kp M H H2 :=
  ⟨fun x o n e => b.st x o n (a.st x o n e), a.l1, b.l2⟩
theorem Kp.of_same {M : Addr → Prop} {H H' : Hp} (h : ∀ a, M a → ∃ xs, H a = some (.lst xs)) (s : Same H H') : Kp M H H' :=
  ⟨fun x o _ e => s x o e, h, fun a m => let ⟨xs, e⟩ := h a m; ⟨xs, s a _ e⟩⟩
theorem Kp.refl {M : Addr → Prop} {H : Hp} (h : ∀ a, M a → ∃ xs, H a = some (.lst xs)) : Kp M H H := .of_same h (Same.refl H)
theorem same_new {H : Hp} {p : Addr} {o : HO} (h : H p = Option.none) : Same H (upd H p o) := fun b u e => by
  rw [upd_ne (ne_of_none e h)]
  exact e
theorem Kp.new {M : Addr → Prop} {H : Hp} (h : ∀ a, M a → ∃ xs, H a = some (.lst xs)) {p : Addr} {o : HO} (hp : H p = Option.none) : Kp M H (upd H p o) :=
  .of_same h (same_new hp)
theorem Kp.put {M : Addr → Prop} {H : Hp} (h : ∀ a, M a → ∃ xs, H a = some (.lst xs)) {p : Addr} {ys : List V} (hp : M p) : Kp M H (upd H p (.lst ys)) :=
  ⟨fun x o n e => by
    rw [upd_ne (show x ≠ p by rintro rfl; exact n hp)]
    exact e, h, fun a m => by
    by_cases q : a = p
    · subst q
      exact ⟨ys, upd_same⟩
    · rw [upd_ne q]
      exact h a m⟩
theorem Kp.wider {M N : Addr → Prop} {H H' : Hp} (k : Kp M H H') (h : ∀ a, M a → N a) (l : ∀ a, N a → ∃ xs, H a = some (.lst xs)) : Kp N H H' :=
  ⟨fun x o n e => k.st x o (fun m => n (h x m)) e, l, fun a m => by
    by_cases q : M a
    · exact k.l2 a q
    · obtain ⟨xs, e⟩ := l a m
      exact ⟨xs, k.st a _ q e⟩⟩
theorem Kp.tup {M : Addr → Prop} {K : PySem.W.Frag} {H H' : Hp} {a : Addr} {xs : List V} (k : Kp M H H') (h : SqT K H a xs) : SqT K H' a xs := by
  have no : ∀ o, H a = some o → (∀ ys, o ≠ .lst ys) → ¬ M a := fun o e n m => by
    obtain ⟨ys, e2⟩ := k.l1 a m
    rw [e] at e2
    exact n ys (Option.some.inj e2)
  rcases h with (h | ⟨o, h⟩) | h
  · exact .inl (.inl (k.st _ _ (no _ h fun _ z => nomatch z) h))
  · exact .inl (.inr ⟨o, k.st _ _ (no _ h fun _ z => nomatch z) h⟩)
  · exact .inr h
theorem Kp.free {M : Addr → Prop} {H H' : Hp} {p : Addr} (k : Kp M H H') (h : H' p = Option.none) : H p = Option.none := by
  cases e : H p with
  | none => rfl
  | some o =>
    by_cases q : M p
    · obtain ⟨xs, e2⟩ := k.l2 p q
      rw [h] at e2
      cases e2
    · have := k.st p o q e
      rw [h] at this
      cases this
theorem Kp.m_of {M : Addr → Prop} {H H' : Hp} {p : Addr} (k : Kp M H H') (h : H p = Option.none) : ¬ M p := fun m => by
  obtain ⟨xs, e⟩ := k.l1 p m
  rw [h] at e
  cases e

/-! ### data -/
mutual
/-- no list, no dict in it -/
def flatD : PyData → Bool
  | .list _ => false
  | .dict _ => false
  | .tuple xs => flatDs xs
  | _ => true
def flatDs : List PyData → Bool
  | [] => true
  | x :: xs => flatD x && flatDs xs
end
mutual
theorem dp_keep {K : PySem.W.Frag} {H H' : Hp} (k : ∀ a xs, SqT K H a xs → SqT K H' a xs) : ∀ (d : PyData) (v : V), flatD d = true → Dp K H v d → Dp K H' v d
  | .none, _, _, h => by cases h; exact .non
  | .bool _, _, _, h => by cases h; exact .bl _
  | .int _, _, _, h => by cases h; exact .int _
  | .str _, _, _, h => by cases h; exact .str _
  | .list _, _, f, _ => by simp [flatD] at f
  | .dict _, _, f, _ => by simp [flatD] at f
  | .tuple ds, _, f, h => by
    cases h with
    | tup hs ha => exact .tup (k _ _ hs) (dps_keep k ds _ (by simpa [flatD] using f) ha)
theorem dps_keep {K : PySem.W.Frag} {H H' : Hp} (k : ∀ a xs, SqT K H a xs → SqT K H' a xs) : ∀ (ds : List PyData) (vs : List V), flatDs ds = true → DpAll K H vs ds → DpAll K H' vs ds
  | [], _, _, h => by cases h; exact .nil
  | d :: ds, _, f, h => by
    cases h with
    | cons h1 h2 =>
      have f' : flatD d = true ∧ flatDs ds = true := by simpa [flatDs] using f
      exact .cons (dp_keep k d _ f'.1 h1) (dps_keep k ds _ f'.2 h2)
end
mutual
/-- all lists in it are kept as well -/
theorem dp_same {K : PySem.W.Frag} {H H' : Hp} (s : Same H H') : ∀ (d : PyData) (v : V), Dp K H v d → Dp K H' v d
  | .none, _, h => by cases h; exact .non
  | .bool _, _, h => by cases h; exact .bl _
  | .int _, _, h => by cases h; exact .int _
  | .str _, _, h => by cases h; exact .str _
  | .dict _, _, h => by cases h
  | .list ds, _, h => by
    cases h with
    | lst hs ha => exact .lst (s.seq hs) (dps_same s ds _ ha)
  | .tuple ds, _, h => by
    cases h with
    | tup hs ha =>
      refine .tup ?_ (dps_same s ds _ ha)
      rcases hs with (h | ⟨o, h⟩) | h
      · exact .inl (.inl (s _ _ h))
      · exact .inl (.inr ⟨o, s _ _ h⟩)
      · exact .inr h
theorem dps_same {K : PySem.W.Frag} {H H' : Hp} (s : Same H H') : ∀ (ds : List PyData) (vs : List V), DpAll K H vs ds → DpAll K H' vs ds
  | [], _, h => by cases h; exact .nil
  | d :: ds, _, h => by
    cases h with
    | cons h1 h2 => exact .cons (dp_same s d _ h1) (dps_same s ds _ h2)
end
theorem DpAll.len {K : PySem.W.Frag} {H : Hp} : ∀ {vs : List V} {ds : List PyData}, DpAll K H vs ds → vs.length = ds.length
  | _, _, .nil => rfl
  | _, _, .cons _ h => congrArg (· + 1) (DpAll.len h)
theorem DpAll.at {K : PySem.W.Frag} {H : Hp} : ∀ {vs : List V} {ds : List PyData} {i : Nat} {d : PyData}, DpAll K H vs ds → ds[i]? = some d → ∃ v, vs[i]? = some v ∧ Dp K H v d
  | _, _, 0, d, .cons h _, e => by
    simp at e
    subst e
    exact ⟨_, rfl, h⟩
  | _, _, i + 1, d, .cons _ h, e => by
    obtain ⟨v, h1, h2⟩ := DpAll.at (i := i) (d := d) h (by simpa using e)
    exact ⟨v, by simpa using h1, h2⟩
theorem DpAll.atV {K : PySem.W.Frag} {H : Hp} : ∀ {vs : List V} {ds : List PyData} {i : Nat} {v : V}, DpAll K H vs ds → vs[i]? = some v → ∃ d, ds[i]? = some d ∧ Dp K H v d
  | _, _, 0, d, .cons h _, e => by
    simp at e
    subst e
    exact ⟨_, rfl, h⟩
  | _, _, i + 1, d, .cons _ h, e => by
    obtain ⟨v, h1, h2⟩ := DpAll.atV (i := i) (v := d) h (by simpa using e)
    exact ⟨v, by simpa using h1, h2⟩
theorem DpAll.snoc {K : PySem.W.Frag} {H : Hp} {v : V} {d : PyData} (h : Dp K H v d) : ∀ {vs : List V} {ds : List PyData}, DpAll K H vs ds → DpAll K H (vs ++ [v]) (ds ++ [d])
  | _, _, .nil => .cons h .nil
  | _, _, .cons a b => .cons a (DpAll.snoc h b)
theorem DpAll.app {K : PySem.W.Frag} {H : Hp} : ∀ {vs ws : List V} {ds es : List PyData}, DpAll K H vs ds → DpAll K H ws es → DpAll K H (vs ++ ws) (ds ++ es)
  | _, _, _, _, .nil, h => h
  | _, _, _, _, .cons a b, h => .cons a (DpAll.app b h)
theorem DpAll.take {K : PySem.W.Frag} {H : Hp} (n : Nat) : ∀ {vs : List V} {ds : List PyData}, DpAll K H vs ds → DpAll K H (vs.take n) (ds.take n) := by
  induction n with
  | zero => intro vs ds _; exact .nil
  | succ n ih =>
    intro vs ds h
    cases h with
    | nil => exact .nil
    | cons a b => exact .cons a (ih b)
theorem DpAll.drop {K : PySem.W.Frag} {H : Hp} (n : Nat) : ∀ {vs : List V} {ds : List PyData}, DpAll K H vs ds → DpAll K H (vs.drop n) (ds.drop n) := by
  induction n with
  | zero => intro vs ds h; exact h
  | succ n ih =>
    intro vs ds h
    cases h with
    | nil => exact .nil
    | cons a b => exact ih b
theorem DpAll.rev {K : PySem.W.Frag} {H : Hp} : ∀ {vs : List V} {ds : List PyData}, DpAll K H vs ds → DpAll K H vs.reverse ds.reverse
  | _, _, .nil => .nil
  | _, _, .cons a b => by
    rw [List.reverse_cons, List.reverse_cons]
    exact DpAll.snoc a (DpAll.rev b)
theorem dpAll_ints {K : PySem.W.Frag} {H : Hp} : ∀ ns : List Int, DpAll K H (ns.map V.int) (ns.map PyData.int)
  | [] => .nil
  | n :: ns => .cons (.int n) (dpAll_ints ns)

/-! ### repr of data -/
/-- what repr sees at a value: data of lists and tuples, or a dict of int keys whose values are data without lists -/
def Rp (K : PySem.W.Frag) (H : Hp) (x : V) (d : PyData) : Prop :=
  Dp K H x d ∨ ∃ (a : Addr) (kvs : List (Key × V)) (es : List (Int × PyData)), x = .ref a ∧ H a = some (.dK kvs) ∧ kvs.map (·.1) = es.map (fun e => Sum.inl e.1) ∧
    DpAll K H (kvs.map (·.2)) (es.map (·.2)) ∧ flatDs (es.map (·.2)) = true ∧ d = .dict (es.map fun e => (.int e.1, e.2))
mutual
/-- short leaves -/
def okD : PyData → Bool
  | .int i => decide (i.natAbs < 10 ^ 12)
  | .str x => PyData.leavesShort 13 (.str x)
  | .list xs => okDs xs
  | .tuple xs => okDs xs
  | .dict kvs => okDk kvs
  | _ => true
def okDs : List PyData → Bool
  | [] => true
  | x :: xs => okD x && okDs xs
def okDk : List (PyData × PyData) → Bool
  | [] => true
  | (k, v) :: r => okD k && okD v && okDk r
end
mutual
theorem okD_show : ∀ d : PyData, okD d = true → d.showable = true ∧ d.leavesShort 13 = true
  | .none, _ => by constructor <;> first | rfl | decide +kernel | simp [PyData.showable, PyData.leavesShort]
  | .bool b, _ => by cases b <;> constructor <;> first | rfl | decide +kernel
  | .int i, h => by
    have h' : i.natAbs < 10 ^ 12 := by simpa [okD] using h
    refine ⟨?_, ?_⟩
    · have : i.natAbs.log2 < 1920 := by
        by_cases z : i.natAbs = 0
        · rw [z]; decide
        · refine Nat.lt_of_lt_of_le ((Nat.log2_lt z).mpr (show i.natAbs < 2 ^ 64 from Nat.lt_of_lt_of_le h' (by decide))) (by decide)
      simpa [PyData.showable] using this
    · have := PyData.shown_int_le h'
      simpa [PyData.leavesShort] using this
  | .str x, h => by
    exact ⟨by simp [PyData.showable], by simpa only [okD] using h⟩
  | .list xs, h => by
    have := okDs_show xs (by simpa [okD] using h)
    exact ⟨by simpa [PyData.showable] using this.1, by simpa [PyData.leavesShort] using this.2⟩
  | .tuple xs, h => by
    have := okDs_show xs (by simpa [okD] using h)
    exact ⟨by simpa [PyData.showable] using this.1, by simpa [PyData.leavesShort] using this.2⟩
  | .dict kvs, h => by
    have := okDk_show kvs (by simpa [okD] using h)
    exact ⟨by simpa [PyData.showable] using this.1, by simpa [PyData.leavesShort] using this.2⟩
theorem okDs_show : ∀ xs : List PyData, okDs xs = true → PyData.showableAll xs = true ∧ PyData.leavesShortAll 13 xs = true
  | [], _ => ⟨by simp [PyData.showableAll], by simp [PyData.leavesShortAll]⟩
  | x :: xs, h => by
    have h' : okD x = true ∧ okDs xs = true := by simpa [okDs] using h
    have a := okD_show x h'.1
    have b := okDs_show xs h'.2
    exact ⟨by simp [PyData.showableAll, a.1, b.1], by simp [PyData.leavesShortAll, a.2, b.2]⟩
theorem okDk_show : ∀ xs : List (PyData × PyData), okDk xs = true → PyData.showableKv xs = true ∧ PyData.leavesShortKv 13 xs = true
  | [], _ => ⟨by simp [PyData.showableKv], by simp [PyData.leavesShortKv]⟩
  | (k, v) :: xs, h => by
    have h' : (okD k = true ∧ okD v = true) ∧ okDk xs = true := by simpa [okDk] using h
    have a := okD_show k h'.1.1
    have b := okD_show v h'.1.2
    have c := okDk_show xs h'.2
    exact ⟨by simp [PyData.showableKv, a.1, b.1, c.1], by simp [PyData.leavesShortKv, a.2, b.2, c.2]⟩
end
mutual
theorem no_as {h : Heap} : ∀ (d : PyData) (u : Value) (as : List Addr), flatD d = true → Reads h u d as → as = []
  | .none, _, _, _, r => by cases r; rfl
  | .bool _, _, _, _, r => by cases r; rfl
  | .int _, _, _, _, r => by cases r; rfl
  | .str _, _, _, _, r => by cases r; rfl
  | .list _, _, _, f, _ => by simp [flatD] at f
  | .dict _, _, _, f, _ => by simp [flatD] at f
  | .tuple ds, _, _, f, r => by
    cases r with
    | tuple _ _ _ ha => exact no_ass ds _ _ (by simpa [flatD] using f) ha
theorem no_ass {h : Heap} : ∀ (ds : List PyData) (us : List Value) (as : List Addr), flatDs ds = true → ReadsAll h us ds as → as = []
  | [], _, _, _, r => by cases r; rfl
  | d :: ds, _, _, f, r => by
    have f' : flatD d = true ∧ flatDs ds = true := by simpa [flatDs] using f
    cases r with
    | cons r1 r2 => rw [no_as d _ _ f'.1 r1, no_ass ds _ _ f'.2 r2]; rfl
end
mutual
theorem dp_nodict {K : PySem.W.Frag} {H : Hp} : ∀ (d : PyData) (v : V), Dp K H v d → d.hasDict = false
  | .none, _, _ => by simp [PyData.hasDict]
  | .bool _, _, _ => by simp [PyData.hasDict]
  | .int _, _, _ => by simp [PyData.hasDict]
  | .str _, _, _ => by simp [PyData.hasDict]
  | .dict _, _, h => by cases h
  | .list ds, _, h => by
    cases h with
    | lst _ ha => simpa [PyData.hasDict] using dps_nodict ds _ ha
  | .tuple ds, _, h => by
    cases h with
    | tup _ ha => simpa [PyData.hasDict] using dps_nodict ds _ ha
theorem dps_nodict {K : PySem.W.Frag} {H : Hp} : ∀ (ds : List PyData) (vs : List V), DpAll K H vs ds → PyData.hasDictAll ds = false
  | [], _, _ => by simp [PyData.hasDictAll]
  | d :: ds, _, h => by
    cases h with
    | cons h1 h2 => simp [PyData.hasDictAll, dp_nodict d _ h1, dps_nodict ds _ h2]
end
theorem flatDs_ints : ∀ ks : List Int, flatDs (ks.map PyData.int) = true
  | [] => rfl
  | k :: ks => by simp [flatDs, flatD, flatDs_ints ks]
section
variable {X : Cx}
theorem dict_keys {prog : Program} {w : World} {h : Heap} : ∀ (es : List (Int × PyData)) (kvs : List (Key × V)) (l : List DictEntry) (vs : List (Key × Value)), kvs.map (·.1) = es.map (fun e => Sum.inl e.1) → KV kvs vs → Pairs (mixKind prog w) l vs →
    ReadsAll h (l.map (·.key)) (es.map fun e => PyData.int e.1) [] ∧ Vals (kvs.map (·.2)) (l.map (·.val))
  | [], kvs, l, vs, hk, r, p => by
    cases kvs with
    | cons a b => simp at hk
    | nil =>
      cases r
      cases p
      exact ⟨.nil, .nil⟩
  | e :: es, kvs, l, vs, hk, r, p => by
    cases kvs with
    | nil => simp at hk
    | cons a b =>
      simp only [List.map_cons, List.cons.injEq] at hk
      cases r with
      | @cons _ v _ vs' r1 r2 =>
        cases p with
        | @cons en _ l' _ p1 p2 p3 =>
          obtain ⟨q1, q2⟩ := dict_keys es b l' vs' hk.2 r2 p3
          have p1' : keyIs v.1 en.key = true := p1
          rw [← r1.1, hk.1] at p1'
          obtain ⟨t, et⟩ := Value.isInt_shape (k := e.1) (v := en.key) p1'
          refine ⟨?_, .cons ?_ q2⟩
          · rw [List.map_cons, List.map_cons, et]
            exact ReadsAll.cons (as := []) (bs := []) (Reads.int _ _) q1
          · show RelV a.2 en.val
            rw [p2]
            exact r1.2
def rRepr (K : PySem.W.Frag) : List V → Hp → VK → Prop := fun xs H Q => ∃ x d, xs = [x] ∧ Rp K H x d ∧ okD d = true ∧ d.depth ≤ 60 ∧ d.weight ≤ 2 ^ 20 ∧ Q (.str d.shown) H
theorem call_reprD (hg : X.A.guards = some []) (hu : X.A.units + 64 < cLine) : CallR X (.builtin "repr") (rRepr X.K) := by
  intro pins s σ H xs us Q I r h
  obtain ⟨x, d, rfl, hd, ok, hdep, hw, q⟩ := h
  obtain ⟨u, rfl, rx⟩ := vals1 r
  obtain ⟨hsh, hls⟩ := okD_show d ok
  have hsz : d.shown.length ≤ sizeLine := PyData.shown_fits (by decide) (by decide) hls hw
  have fin : ∀ (a : Addr) (as : List Addr), u = .ref a → Reads s.heap u d as → (d.hasDict = true → sysModules ∉ as) → wpAny (model X.prog X.w) X.A (call (.builtin "repr") [u]) (EP X pins σ Q) X.xe s := fun a as e rd no => by
    subst e
    exact repr_of_reads' rd hsh no hg (by omega) (fun _ _ e => e) (fun h' u tk k => ⟨.str _, H, I.kept k, ⟨_, rfl⟩, q⟩) hsz
  rcases hd with hd | ⟨a, kvs, es, rfl, ha, hk, hv, hf, rfl⟩
  · obtain ⟨as, rd⟩ := Dp.reads I d x u hd rx
    cases hd with
    | non => cases rx; exact P.repr_of_none ⟨.str _, H, I.tok _, ⟨_, rfl⟩, q⟩
    | bl b => cases rx; exact P.repr_of_bool ⟨.str _, H, I.tok _, ⟨_, rfl⟩, by cases b <;> exact q⟩
    | int i =>
      obtain ⟨t, rfl⟩ := rx
      exact P.repr_of_int (by simpa [PyData.showable] using hsh) ⟨.str _, H, I.tok _, ⟨_, rfl⟩, by simpa [PyData.shown] using q⟩
    | str z =>
      obtain ⟨t, rfl⟩ := rx
      exact P.repr_of_str ⟨.str _, H, I.tok _, ⟨_, rfl⟩, by simpa [PyData.shown] using q⟩ (by simpa [PyData.shown] using hsz)
    | lst hs ha =>
      have nd := dp_nodict _ _ (Dp.lst hs ha)
      cases rx
      exact fin _ as rfl rd fun z => by rw [nd] at z; cases z
    | tup hs ha =>
      have nd := dp_nodict _ _ (Dp.tup hs ha)
      cases rx
      exact fin _ as rfl rd fun z => by rw [nd] at z; cases z
  · cases rx
    obtain ⟨_, hsys, vs, rv, ob, dl, ep, e1, e2, e3, _, e5, _⟩ := (show kvs.length ≤ sizeLine ∧ (a == sysModules) = false ∧ ∃ vs, KV kvs vs ∧ s.heap.DictOf (mixKind X.prog X.w) a vs from dk_of I.hok ha)
    obtain ⟨q1, q2⟩ := dict_keys es kvs dl.toList vs hk rv e5
    obtain ⟨bs, q3⟩ := Dp.readsAll I _ _ _ hv q2
    obtain rfl := no_ass _ _ _ hf q3
    have rd : Reads s.heap (.ref a) (.dict (es.map fun e => (PyData.int e.1, e.2))) (a :: [] ++ []) :=
      .dict e1 e2.1 e3 (by rw [List.map_map]; exact q1) (by rw [List.map_map]; exact q3)
    exact fin a _ rfl rd fun _ m => by
      have : sysModules = a := by simpa using m
      rw [← this] at hsys
      simp at hsys
end
end Cm

/-! a law's call whose body may ask repr: nothing is under repr there -/
namespace Cm
open PySem L2 PySem.Spec PyProof.Rows
section
variable {P : Program} {w : World} {K : PySem.W.Frag} {mg : Str → Option Value} {base : Heap}
/-- the promise of the law's def, where no repr is under way -/
def LawAt (P : Program) (w : World) (K : PySem.W.Frag) (mg : Str → Option Value) (base : Heap) (k : Nat) (f : Addr) (fd : FuncData) (ps : List Str) (sp : Sp) : Prop :=
  ∀ (A : Around) (outer : List Env) (s : Shared) (H : Hp) (args : Args) (us : List Value) (vs : List V) (Q : VK) (E : XK),
    A.guards = some [] → Room k A → Env0 P w K mg base A outer s H → BindsTo s fd args (ps.zip us) → Vals vs us → sp vs H Q E →
      codeAny (model P w) A (.call (.ref f) args) (CR CX0 outer P w H s Q E) s
theorem lawAt_of {x : Str} {st : Stmt} {f : Addr} {fd : FuncData} {N ps : List Str} {k : Nat} {sp : Sp} (F : Fun K x x st f fd) (S : FnScope N ps (defScope st))
    (len : ∀ vs H Q E, sp vs H Q E → vs.length = ps.length)
    (hb : ∀ (cdv : Value) (A : Around) (outer : List Env) (s : Shared) (H : Hp) (vs : List V) (Q : VK) (E : XK), A.guards = some [] →
      Room k (A.deeper (envOfC x (defScope st) s.heap.objs.size f cdv)) → sp vs H Q E →
      ∃ t, PSs (cxOf CX0 P w K mg base N x (defScope st) f cdv A outer s H E).nox (defBody st) t ∧ t { nx := fun _ H' => Q .non H', rt := Q } (start N vs) H) :
    LawAt P w K mg base (k + 1) f fd ps sp := by
  intro A outer s H args us vs Q E hg hr e0 hbind rv hs
  obtain ⟨oc, od, kV, doc, pm, an, cdv, ct, osl, rfl, lk, hcd⟩ := F.ex
  have keeps : ∀ b o, base.get? b = some o → s.heap.get? b = some o := fun b o e => (e0.bs b o e).1
  have KX : K.In s.heap := e0.mod.kin.keeps keeps
  refine codeAny_call_function hr.depth (KX _ _ lk) rfl S.co S.gen rfl (PySem.W.codeRec_of KX hcd) (hbind _ _ _ _ ?_)
  refine wpAny_newFunctionEnv_cells S.kind (fun z hz => ?_) fun env he s1 xc => ?_
  · rcases S.par z.1 (List.of_mem_zip (show (z.1, z.2) ∈ ps.zip us from hz)).1 with q | q
    · exact Or.inl q
    · exact Or.inr ⟨q, PySem.W.cellsFrom_some _ _ _ (Or.inl q)⟩
  · subst he
    refine ⟨(e0.mod.nolimit.keeps keeps).keeps xc.toInCall.keep, codeAny_func ?_⟩
    obtain ⟨t, ht, hq⟩ := hb cdv A outer s H vs Q E hg (hr.deeper _) hs
    have I := inv_start (E := E) (CX := CX0) S hr.hd e0 (len _ _ _ _ hs) rv xc
    refine wpAny_mono (ht.nox.run [] s1 (start N vs) H _ I hq) (fun fl s' hz => ?_) fun e s' hz => hz
    cases fl with
    | ret u =>
      obtain ⟨v, _, H', J, r, q⟩ := hz
      exact ⟨v, H', J.os, J.bare, J.base, J.hok, r, q⟩
    | next =>
      obtain ⟨_, H', J, q⟩ := hz
      exact ⟨V.non, H', J.os, J.bare, J.base, J.hok, rfl, q⟩
    | brk =>
      obtain ⟨_, _, _, q⟩ := hz
      exact q.elim
    | cont =>
      obtain ⟨_, _, _, q⟩ := hz
      exact q.elim
end
/-- the script tracked at a: known to the object, or one of the module's own -/
def scriptH (a : Addr) (o : Obj) (ns : List Int) : Hp := fun b => if b = a then some (.frz o (.lst (ns.map V.int))) else Option.none
theorem law_goes {P : Program} {w : World} {K : PySem.W.Frag} {mg mb : Str → Option Value} {k : Nat} {fa a : Addr} {fd : FuncData} {x : Str} {sp : Sp} {s₁ : Shared} {vs : List Value} {ns : List Int}
    (KX : K.In s₁.heap) (hns : s₁.heap.Ns mainGlobals mg) (hb : s₁.heap.Ns builtinsNs mb)
    (hbb : ∀ x : Str, x ≠ "__name__" → mb x = bootBuiltins x) (hlim : s₁.heap.NoLimit) (hg : s₁.gens = #[])
    (ha : s₁.heap.get? a = some { cls := .type "list", data := .seq vs.toArray }) (hi : IntsAre vs ns) (hl : ns.length ≤ sizeLine) (hr : Room k callerA)
    (F : ∀ b : Heap, K.In b → b.Ns mainGlobals mg → LawAt P w K mg b k fa fd [x] sp)
    (hbind : ∀ (s : Shared) (u : Value), BindsTo s fd ⟨[u], []⟩ [(x, u)])
    (hsp : ∀ H : Hp, Only H → SqL K H a (ns.map V.int) → sp [.ref a] H (fun v _ => v = .bl true) fun _ _ _ => False) :
    codeAny (model P w) callerA (.call (.ref fa) ⟨[.ref a], []⟩)
      (fun r s' => r = .ok (.ret (.bool true)) ∧ OldK s₁.heap s'.heap ∧ s'.os = s₁.os ∧ AllBare s'.gens) s₁ := by
  have rv := vals_ints hi
  have main : ∀ H : Hp, Only H → SqL K H a (ns.map V.int) → HOk P w H s₁.heap → (∀ b, H b ≠ Option.none → b = a ∧ K.lookup a = Option.none) →
      codeAny (model P w) callerA (.call (.ref fa) ⟨[.ref a], []⟩)
        (fun r s' => r = .ok (.ret (.bool true)) ∧ OldK s₁.heap s'.heap ∧ s'.os = s₁.os ∧ AllBare s'.gens) s₁ := by
    intro H hO hS hok hA
    have free_ns : ∀ {b : Addr} {o : Obj} {es : Array DictEntry} {ep : Nat}, s₁.heap.get? b = some o → o.data = .dict es ep → H b = Option.none := fun {b o es ep} e d => by
      by_cases q : H b = Option.none
      · exact q
      · obtain ⟨rfl, _⟩ := hA b q
        rw [ha] at e
        cases e
        cases d
    have ns_of : ∀ {b : Addr} {m : Str → Option Value}, s₁.heap.Ns b m → (hidT s₁.heap H).Ns b m := fun h => by
      obtain ⟨o, es, ep, e, d, r⟩ := h
      exact ⟨o, es, ep, hidT_get e (free_ns e d), d, r⟩
    have kin : K.In (hidT s₁.heap H) := fun b o e => hidT_get (KX b o e) (by
      by_cases q : H b = Option.none
      · exact q
      · obtain ⟨rfl, q2⟩ := hA b q
        rw [q2] at e
        cases e)
    obtain ⟨mc, l1, l2⟩ := hlim
    have e0 : Env0 P w K mg (hidT s₁.heap H) callerA [] s₁ H :=
      { frames := rfl, mod := ⟨kin, ns_of hns, ⟨mb, ns_of hb, hbb⟩, ⟨mc, ns_of l1, l2⟩⟩, bs := fun b o e => of_hidT e, bsz := Nat.le_of_eq (hidT_size _ _),
        funs := trivial, frf := fun b z => absurd (show b ∈ ([] : List Addr) from z) (by simp), hok := hok, bare := .of_eq hg }
    have run := F _ kin (ns_of hns) callerA [] s₁ H ⟨[.ref a], []⟩ [.ref a] [.ref a] _ _ rfl hr e0 (hbind s₁ (.ref a)) (.cons rfl .nil) (hsp H hO hS)
    refine codeAny_mono run fun r s' h => ?_
    rcases r with e | fl
    · exact False.elim h
    · cases fl with
      | ret u =>
        obtain ⟨v, H', os, bare, un, hok', r', q⟩ := h
        have q' : v = .bl true := q
        subst q'
        have eu : u = Value.bool true := r'
        subst eu
        refine ⟨rfl, OldK.of_keep fun b o e => ?_, os, bare⟩
        by_cases q : H b = Option.none
        · exact un.keep b o e q (fun z => absurd (show b ∈ ([] : List Addr) from z) (by simp)) (by simp)
        · rcases hO b with z | ⟨ob, xs, z⟩
          · exact absurd z q
          · have e1 := (hok b _ z).1
            have e2 := (hok' b _ (un.frzs b ob _ z)).1
            rw [e] at e1
            cases e1
            exact e2
      | next => exact False.elim h
      | brk => exact False.elim h
      | cont => exact False.elim h
  by_cases hk : K.lookup a = Option.none
  · refine main (scriptH a { cls := .type "list", data := .seq vs.toArray } ns) (fun b => ?_) (.inl (.inr ⟨_, if_pos rfl⟩)) (fun b u z => ?_) fun b z => ?_
    · by_cases q : b = a
      · exact .inr ⟨_, _, if_pos q⟩
      · exact .inl (if_neg q)
    · unfold scriptH at z
      by_cases q : b = a
      · rw [if_pos q] at z
        cases z
        subst q
        exact ⟨ha, by rw [List.length_map]; exact hl, vs, _, rv, ha⟩
      · rw [if_neg q] at z
        cases z
    · by_cases q : b = a
      · exact ⟨q, hk⟩
      · exact absurd (if_neg q) z
  · obtain ⟨o, ho⟩ : ∃ o, K.lookup a = some o := by
      cases e : K.lookup a with
      | none => exact absurd e hk
      | some o => exact ⟨o, rfl⟩
    have e := KX a o ho
    rw [ha] at e
    cases e
    refine main (fun _ => Option.none) (fun _ => .inl rfl) ?_ (fun b u z => by cases z) fun b z => absurd rfl z
    exact .inr ⟨_, vs.toArray, _, ho, rfl, rfl, rfl, by rw [List.size_toArray, hi.length]; exact hl, by simpa using rv⟩
theorem walk_law {l : PySem.W.OpenLaw} {n k : Nat} {q : Program} {loose : List Str} {XP : (Str → Option Value) → Heap → Prop} {YP : World → Heap → Prop} {d : DefRec} {K : Params → PySem.W.Frag} {sp : PySem.W.Frag → Sp} {x : Str}
    (hn : l.most = some n) (hn2 : n ≤ sizeLine) (hdf : d.params.defaults = []) (hr : Room k callerA)
    (hY : ∀ (w : World) (h : Heap), YP w h → (K w.params).In h)
    (F : ∀ (w : World) (mg : Str → Option Value) (fa : Addr) (h : Heap), (K w.params).In h → h.Ns mainGlobals mg → mg d.name = some (.ref fa) →
      ∃ fd : FuncData, (∀ (s : Shared) (u : Value), BindsTo s fd ⟨[u], []⟩ [(x, u)]) ∧
        ∀ b : Heap, (K w.params).In b → b.Ns mainGlobals mg → LawAt l.prog w (K w.params) mg b k fa fd [x] (sp (K w.params)))
    (hsp : ∀ (K : PySem.W.Frag) (H : Hp) (a : Addr) (ns : List Int), ns.length ≤ n → Only H → SqL K H a (ns.map V.int) → sp K [.ref a] H (fun v _ => v = .bl true) fun _ _ _ => False) :
    PySem.W.WalkO q loose XP YP l.row.toRowW d [] (fun f vs => PySem.call f vs) := by
  refine Att.attach_call hn hdf fun w s₀ s₁ mg mb fa o pm cd doc a vs ns G Y ho hd hcd hmg hobj hints hlen hg => ?_
  obtain ⟨fd, hb, hF⟩ := F w mg fa _ (hY w _ Y) G.T.g hmg
  exact law_goes (hY w _ Y) G.T.g G.T.b G.T.builtins G.T.nolimit hg hobj hints (Nat.le_trans hlen hn2) hr hF hb fun H hO hS => hsp _ H a ns hlen hO hS
end Cm

/-! defs that are called by name; the hand of draws -/
namespace Cm
open PySem L2 PySem.Spec PyProof.Rows
structure Cl (P : Program) (w : World) (K : PySem.W.Frag) (mg : Str → Option Value) (base : Heap) (k : Nat) (x : Str) (sp : Sp) : Prop where
  ex : ∃ (f : Addr) (fd : FuncData) (ps : List Str), FnOk P w K mg base CX0 k f fd ps sp ∧ mg x = some (.ref f) ∧ PySem.W.keepIn K (.ref f) = true ∧ Binds K fd ps []
/-- where a def of the text stands -/
structure At (K : PySem.W.Frag) (mg : Str → Option Value) (x : Str) (st : Stmt) (ps : List Str) : Prop where
  ex : ∃ (f : Addr) (fd : FuncData), Fun K x x st f fd ∧ mg x = some (.ref f) ∧ Binds K fd ps []
section
variable {P : Program} {w : World} {K : PySem.W.Frag} {mg : Str → Option Value} {base : Heap}
theorem cl_of {x : Str} {st : Stmt} {N ps : List Str} {k : Nat} {sp : Sp} (T : At K mg x st ps) (S : FnScope N ps (defScope st))
    (len : ∀ vs H Q E, sp vs H Q E → vs.length = ps.length)
    (hb : ∀ (f : Addr) (cdv : Value) (A : Around) (outer : List Env) (s : Shared) (H : Hp) (vs : List V) (Q : VK) (E : XK),
      Room k (A.deeper (envOfC x (defScope st) s.heap.objs.size f cdv)) → sp vs H Q E →
      ∃ t, PSs (cxOf CX0 P w K mg base N x (defScope st) f cdv A outer s H E).nox (defBody st) t ∧ t { nx := fun _ H' => Q .non H', rt := Q } (start N vs) H) :
    Cl P w K mg base (k + 1) x sp := by
  obtain ⟨f, fd, F, hm, b⟩ := T.ex
  exact ⟨f, fd, ps, F.ok S len (hb f), hm, F.kp, b⟩
end
section
variable {X : Cx} {j k : Nat} {x : Str} {sp : Sp} {e : Expr} {es : List Expr} {t : TA} {p pos : Pos}
theorem pe_c (c : Cl X.prog X.w X.K X.mg X.base k x sp) (hr : Room j X.A) (hk : k ≤ j) (hg : Gl X x) (ha : PA X (e :: es) t)
    (hdb : (x == ("__debug__" : Str)) = false := by decide) (he : starEach (e :: es) X.env = (false, eval e X.env) :: starEach es X.env := by rfl)
    (hpl : (backTo pos (starEach es X.env)).any (·.1) = false := by rfl) : PE X (.Call (.Name x p) (e :: es) [] pos) (tCall sp [] E0 t) := by
  obtain ⟨f, fd, ps, F, hm, kp, b⟩ := c.ex
  exact pe_call F (hr.mono hk) hg hm kp b .nil pass0 ha hdb he hpl
end

theorem map_at {α β : Type} {f : α → β} {xs : List α} {i : Nat} {y : β} (h : (xs.map f)[i]? = some y) : ∃ x, xs[i]? = some x ∧ y = f x := by
  rw [List.getElem?_map] at h
  obtain ⟨x, a, b⟩ := Option.map_eq_some_iff.mp h
  exact ⟨x, a, b.symm⟩

/-! ### a word between a statement and what follows it -/
def tMid (t u : TS) : TS := fun D σ H => ∃ M : L2.St → Hp → Prop, t { D with nx := M } σ H ∧ ∀ σ' H', M σ' H' → u D σ' H'
theorem pss_mid {X : Cx} {st : Stmt} {rest : List Stmt} {t u : TS} (h1 : PS X st t) (h2 : PSs X rest u) : PSs X (st :: rest) (tMid t u) :=
  ⟨fun pins s σ H D I h => by
    obtain ⟨M, hm, hu⟩ := h
    refine wpAny_execs_cons (thn (h1.run pins s σ H { D with nx := M } I hm) fun fl s1 q => ?_)
    cases fl with
    | next =>
      obtain ⟨σ', H', I', q⟩ := q
      exact h2.run pins s1 σ' H' D I' (hu σ' H' q)
    | ret v => exact q
    | brk => exact q
    | cont => exact q⟩

/-! ### the hand of draws -/
/-- a hand stands at h: the cells, how many were taken, a great cell that is drawn from, a sum -/
def Hand (H : Hp) (h c : Addr) : Prop := ∃ (cells : List Int) (i b t : Int), H h = some (.lst [.ref c, .int i, .int b, .int t]) ∧ H c = some (.lst (cells.map V.int)) ∧ c ≠ h ∧ 0 ≤ i ∧ cells.length ≤ 63
theorem Hand.lst {H : Hp} {h c : Addr} (x : Hand H h c) : ∃ xs, H h = some (.lst xs) := let ⟨_, _, _, _, e, _⟩ := x; ⟨_, e⟩
theorem Hand.same {H H' : Hp} {h c : Addr} (x : Hand H h c) (s : Same H H') : Hand H' h c := by
  obtain ⟨cells, i, b, t, e1, e2, n, z⟩ := x
  exact ⟨cells, i, b, t, s _ _ e1, s _ _ e2, n, z⟩
/-- the hand alone is changed -/
abbrev Kh (h : Addr) : Hp → Hp → Prop := Kp (fun a => a = h)
theorem Hand.kh {H H' : Hp} {h c : Addr} (x : Hand H h c) (s : Same H H') : Kh h H H' := .of_same (fun a m => by subst m; exact x.lst) s
theorem Hand.kr {H : Hp} {h c : Addr} (x : Hand H h c) : Kh h H H := x.kh (Same.refl H)

def spMix : Sp := fun vs H Q _ => ∃ a b : Int, vs = [.int a, .int b] ∧ ∀ n : Int, Q (.int n) H
def spHand (K : PySem.W.Frag) : Sp := fun vs H Q _ => ∃ (a : Addr) (ns : List Int), vs = [.ref a] ∧ SqL K H a (ns.map V.int) ∧ ns.length ≤ 63 ∧ ∀ h c H', Same H H' → H h = Option.none → H c = Option.none → Hand H' h c → Q (.ref h) H'
def spDraw : Sp := fun vs H Q _ => ∃ (h c : Addr) (m : Int), vs = [.ref h, .int m] ∧ Hand H h c ∧ 0 < m ∧ m < 2 ^ 100 ∧ ∀ (n : Int) (H' : Hp), 0 ≤ n → n < m → Kh h H H' → Hand H' h c → Q (.int n) H'
/-- pick out of a list or tuple -/
def spPick (K : PySem.W.Frag) : Sp := fun vs H Q _ => ∃ (h c a : Addr) (xs : List V), vs = [.ref h, .ref a] ∧ Hand H h c ∧ (SqL K H a xs ∧ a ≠ h ∨ SqT K H a xs) ∧ xs ≠ [] ∧ xs.length ≤ 1000 ∧
  ∀ (v : V) (H' : Hp), v ∈ xs → Kh h H H' → Hand H' h c → Q v H'
end Cm

/-! further rules: a tuple read backwards, enumerate over a tuple, sorted(d.keys()) -/
namespace Cm
open PySem L2 PySem.Spec PyProof.Rows
section
variable {prog : Program} {w : World} {A : Around} {E : Value → Shared → Prop} {s : Shared}
theorem adjust_back (n : Nat) : Builtin.Slice.sliceAdjust none none (-1) (n : Int) = ((n : Int) - 1, -1) := by
  unfold Builtin.Slice.sliceAdjust
  simp
theorem places_back (n : Nat) : Builtin.Slice.slicePlaces ((n : Int) - 1) (-1) (-1) = n := by
  unfold Builtin.Slice.slicePlaces
  simp
  try omega
theorem applied_back {sl : Addr} {vs : Value} {n : Nat} {Q : Int × Int × Nat → Shared → Prop} (hs : s.heap.IsSliceOf sl .none .none vs) (ps : IsPart vs (some (-1)))
    (h : Q ((n : Int) - 1, -1, n) s) : wpAny (model prog w) A (Builtin.Slice.sliceApplied (.ref sl) (pure (n : Int))) Q E s := by
  obtain ⟨os, hos, hcs, hds⟩ := id hs
  unfold Builtin.Slice.sliceApplied Builtin.Slice.sliceFields
  refine wpAny_bind (wpAny_bind (wpAny_field hos hds (x := .none) rfl (wpAny_bind (wpAny_field hos hds (x := .none) rfl (wpAny_bind (wpAny_field hos hds (x := vs) rfl (wpAny_pure ?_)))))))
  refine wpAny_bind (HT.slicePart_ ps ?_)
  show wpAny _ _ (if ((-1 : Int) == 0) = true then _ else _) _ _ s
  rw [if_neg (by decide)]
  refine wpAny_bind (slicePart_none (wpAny_bind (slicePart_none (wpAny_bind (wpAny_pure ?_)))))
  show wpAny _ _ (match Builtin.Slice.sliceAdjust none none (-1) (n : Int) with | (lo, hi) => pure (lo, (-1 : Int), Builtin.Slice.slicePlaces lo hi (-1))) _ _ s
  rw [adjust_back]
  show wpAny _ _ (pure ((n : Int) - 1, (-1 : Int), Builtin.Slice.slicePlaces ((n : Int) - 1) (-1) (-1))) _ _ s
  rw [places_back]
  exact wpAny_pure h
theorem filterMap_eqs {α β : Type} {f g : α → Option β} : ∀ l : List α, (∀ x ∈ l, f x = g x) → l.filterMap f = l.filterMap g
  | [], _ => rfl
  | x :: l, h => by
    rw [List.filterMap_cons, List.filterMap_cons, h x List.mem_cons_self, filterMap_eqs l fun y hy => h y (List.mem_cons_of_mem _ hy)]
theorem pick_all (m : List Value) : (List.range m.length).filterMap (fun k => m[k]?) = m := by
  induction m with
  | nil => rfl
  | cons a m ih =>
    rw [List.length_cons, List.range_succ_eq_map, List.filterMap_cons]
    simp only [List.getElem?_cons_zero, List.filterMap_map]
    refine congrArg _ (Eq.trans (filterMap_eqs _ fun k _ => ?_) ih)
    simp
theorem pick_back (xs : Array Value) : ((List.range xs.size).filterMap fun (k : Nat) => xs[((xs.size : Int) - 1 + (k : Int) * -1).toNat]?).toArray = xs.toList.reverse.toArray := by
  have h1 : (List.range xs.size).filterMap (fun (k : Nat) => xs[((xs.size : Int) - 1 + (k : Int) * -1).toNat]?) = (List.range xs.size).filterMap (fun k => xs.toList.reverse[k]?) := by
    refine filterMap_eqs _ fun k hk => ?_
    have hk' : k < xs.size := List.mem_range.mp hk
    have e2 : ((xs.size : Int) - 1 + (k : Int) * -1).toNat = xs.size - 1 - k := by omega
    rw [e2, List.getElem?_reverse (by simpa using hk'), Array.getElem?_toList]
    simp
  have h3 := pick_all xs.toList.reverse
  rw [List.length_reverse, Array.length_toList] at h3
  rw [h1, h3]
theorem getItem_tuple_back {t sl : Addr} {items : Array Value} {vs : Value} {Q : Value → Shared → Prop} (ht : IsTup s.heap t items) (hs : s.heap.IsSliceOf sl .none .none vs) (ps : IsPart vs (some (-1)))
    (h : Q (.ref s.heap.objs.size) { s with heap := s.heap.push { cls := .type "tuple", data := .seq items.toList.reverse.toArray } })
    (hsz : items.size ≤ sizeLine) : wpAny (model prog w) A (getItem (.ref t) (.ref sl)) Q E s := by
  have hok : sizeOk (.seq items.toList.reverse.toArray) := by
    show items.toList.reverse.toArray.size ≤ sizeLine
    rw [List.size_toArray, List.length_reverse, Array.length_toList]
    exact hsz
  obtain ⟨os, hos, hcs, hds⟩ := id hs
  have hTs : s.TypeIs (.ref sl) "slice" := ⟨os, hos, hcs⟩
  unfold getItem
  try with_reducible refine wpAny_holding ?_
  first | refine wpAny_bind (wpAny_pure ?_) | skip
  refine wpAny_bind (wpAny_sequenceKey ht.typeIs (by decide) ?_)
  refine wpAny_bind (wpAny_callSpecial?_slot (name := Str.ofString "__getitem__") ht.typeIs slot_tuple_getitem (wpAny_call_entry slot_tuple_getitem ht.typeIs PyProof.Rows.entry_tuple_getitem ?_ (PyProof.Rows.args_tuple_getitem _ _)))
  show wpAny _ _ (Builtin.Tuple.tupleItemsOf (.ref t) >>= _) _ _ s
  refine wpAny_bind (tupleItemsOf_ ht (wpAny_bind (wpAny_typeOf hTs ?_)))
  rw [if_pos (by decide)]
  refine wpAny_bind (applied_back (n := items.size) hs ps ?_)
  show wpAny _ _ (if ((((items.size : Int) - 1) == 0 && (-1 : Int) == 1 && items.size == items.size) = true) then _ else _) _ _ s
  rw [if_neg (by simp), pick_back]
  first
    | exact wpAny_bind (m := Builtin.Tuple.tupleExact _) (wpAny_newObj_type (wpAny_pure ⟨_, rfl, wpAny_pure h⟩) hok)
    | exact wpAny_bind (m := Builtin.Tuple.tupleExact _) (wpAny_newObj_type (wpAny_bind (wpAny_pure (wpAny_pure ⟨_, rfl, wpAny_pure h⟩))) hok)
end
section
variable {X : Cx}
def tRevT (K : PySem.W.Frag) (te : TE) : TE := fun σ H Q => te σ H fun x H1 => ∃ a xs, x = .ref a ∧ SqT K H1 a xs ∧ ∀ p, H1 p = Option.none → Q (.ref p) (upd H1 p (.tup xs.reverse))
theorem pe_revT {e : Expr} {te : TE} {k : Nat} {p1 p2 p3 pos : Pos} (he : PE X e te) : PE X (.Subscript e (.Slice none none (some (.UnaryOp .USub (.Constant (.int 1) k p1) p2)) p3) pos) (tRevT X.K te) := by
  refine ⟨fun pins s σ H Q I h => ?_⟩
  refine Subscript_ (thn (he.run pins s σ H _ I h) fun v s1 hz => ?_)
  obtain ⟨x, H1, I1, r1, a, xs, ex, hx, q⟩ := hz
  subst ex
  cases r1
  have hst : PO X (some (.UnaryOp .USub (.Constant (.int 1) k p1) p2)) (tPart (tUn (rU fun i => .int (-i)) (tC (.int 1)))) := po_some (pe_un un_neg pe_int)
  refine wpAny_Slice (thn (po_none.run pins s1 σ H1 (fun o H2 => o = none ∧ H2 = H1) I1 ⟨rfl, rfl⟩) fun vl s2 hz => ?_)
  obtain ⟨l, H2, I2, pl, el, e2⟩ := hz
  subst el e2
  refine thn (po_none.run pins s2 σ H2 (fun o H3 => o = none ∧ H3 = H2) I2 ⟨rfl, rfl⟩) fun vu s3 hz => ?_
  obtain ⟨u, H3, I3, pu, eu, e3⟩ := hz
  subst eu e3
  refine thn (hst.run pins s3 σ H3 (fun o H4 => o = some (-1) ∧ H4 = H3) I3 ⟨1, rfl, -1, rfl, rfl, rfl⟩) fun vs s4 hz => ?_
  obtain ⟨o, H4, I4, ps, eo, e4⟩ := hz
  subst eo e4
  cases pl
  cases pu
  have I5 : Inv X pins σ H4 { s4 with heap := s4.heap.push { cls := .type "slice", data := .fields #[.none, .none, vs] } } := I4.kept (t' := s4.toks) fun b ob q => Heap.get?_push_of_some _ q
  obtain ⟨its, r, ht, hz⟩ := I5.tuple hx
  have hlen := r.length
  show wpAny (model X.prog X.w) X.A (subscriptTail e (.Slice none none (some (.UnaryOp .USub (.Constant (.int 1) k p1) p2)) p3) (.ref a) (.ref s4.heap.objs.size)) (EP X pins σ Q) X.xe
    { s4 with heap := s4.heap.push { cls := .type "slice", data := .fields #[.none, .none, vs] } }
  refine tail_any (ops := [.ref a, .ref s4.heap.objs.size]) ht.typeIs slot_tuple_getitem.lookup ?_ (by with_unfolding_all rfl)
  refine getItem_tuple_back ht (Heap.IsSliceOf.new _ .none .none vs) ps ?_ (by rw [List.size_toArray]; omega)
  refine ⟨.ref _, _, I5.laid (t' := s4.toks) (o := .tup xs.reverse) (fun b ob q => Heap.get?_push_of_some _ q) (Nat.le_refl _) ?_, rfl, q _ (I5.hok.fresh (Nat.le_refl _))⟩
  exact ⟨by rw [List.length_reverse]; exact hz, its.reverse, r.reverse, IsTup.new _ _⟩
end

/-! ### enumerate over a tuple -/
theorem enum_new1 {v : Value} {o : Obj} {G : Heap → Prop} (B : Begins v o G) :
    Meets (Builtin.«enumerate.__new__» ⟨[.type "enumerate", v], []⟩) (fun _ R s => G s.heap ∧
      R (.ok (.ret (.ref (s.heap.push o).objs.size))) { s with heap := (s.heap.push o).push { cls := .type "enumerate", data := .fields #[.none, .bool false, .ref s.heap.objs.size, rawInt 0, .none, .none] } }) :=
  .of_wp fun prog w A R s h => by
    obtain ⟨hp, g, d, tk, os⟩ := s
    obtain ⟨h1, h2⟩ := h
    have hsub := sub_enumerate
    have it : ∀ {A' : Around} {E : Value → Shared → Prop} {Q : Value → Shared → Prop}, Q (.ref hp.objs.size) ⟨hp.push o, g, d, tk, os⟩ → wpAny (model prog w) A' (pyIter v) Q E ⟨hp, g, d, tk, os⟩ :=
      fun q => B.iter prog w _ _ ⟨hp, g, d, tk, os⟩ _ h1 q
    wp_walk using it
    refine wpAny_stack_any fun st => wpAny_pure ?_
    split
    · rename_i c _ _ _ _ _
      cases (c == Value.type "enumerate") <;> (wp_walk using it; exact ⟨_, rfl, h2⟩)
    · wp_walk using it
      exact ⟨_, rfl, h2⟩
section
variable {prog : Program} {w : World} {A : Around} {E : Value → Shared → Prop} {s : Shared}
theorem call_enum1 {v : Value} {o : Obj} {G : Heap → Prop} {Q : Value → Shared → Prop} (B : Begins v o G) (h1 : G s.heap)
    (h : ∀ h', IsEnum h' (s.heap.objs.size + 1) s.heap.objs.size 0 .none → h'.get? s.heap.objs.size = some o → h'.objs.size = s.heap.objs.size + 2 →
      (∀ b o, s.heap.get? b = some o → h'.get? b = some o) → Q (.ref (s.heap.objs.size + 1)) { s with heap := h' }) :
    wpAny (model prog w) A (call (.type "enumerate") [v]) Q E s := by
  refine callType_new F.called_enumerate (by decide) (F.typeCall_enumerate_1 _) (F.newCall_enumerate_1 _) (fun obj => F.args_object_init_2 obj _) F.entry_enumerate_new (enum_new1 B) ⟨h1, ?_⟩
  have hz : (s.heap.push o).objs.size = s.heap.objs.size + 1 := Heap.size_push ..
  rw [hz]
  have he : IsEnum ((s.heap.push o).push { cls := .type "enumerate", data := .fields #[.none, .bool false, .ref s.heap.objs.size, rawInt 0, .none, .none] }) (s.heap.objs.size + 1) s.heap.objs.size 0 .none := by
    have e := Heap.get?_push_size (s.heap.push o) (o := { cls := .type "enumerate", data := .fields #[.none, .bool false, .ref s.heap.objs.size, rawInt 0, .none, .none] }) rfl
    rw [hz] at e
    exact e
  exact ⟨⟨_, he, rfl⟩, h _ he (Heap.get?_push_of_some _ (Heap.get?_push_size _ B.free)) (by rw [Heap.size_push, hz]) fun b o x => Heap.get?_push_of_some _ (Heap.get?_push_of_some _ x)⟩
end
/-- the tuple at a, each item in a new pair with its number -/
def IteT (K : PySem.W.Frag) (a : Addr) : It :=
  ⟨fun i H => ∃ (xs : List V) (x : V), SqT K H a xs ∧ xs[i]? = some x, fun i H v H' => ∃ T x, v = .ref T ∧ H T = Option.none ∧ H' = upd H T (.tup [.int (i : Nat), x]) ∧ ∀ xs, SqT K H a xs → xs[i]? = some x,
    fun i H => ∃ xs : List V, SqT K H a xs ∧ xs.length ≤ i⟩
theorem turn_enumT {P : Program} {w : World} {K : PySem.W.Frag} {elts : List Expr} {kk : Nat} {tpos : Pos} (a e it : Addr) :
    Turn P w K (.Tuple elts kk tpos) (IteT K a) [e, it] e (fun i h => (∃ old, IsEnum h e it ((i : Nat) : Int) old) ∧ h.IsTupleIter it a i ∧ e ≠ it ∧ a ≠ it ∧ a ≠ e) where
  mem := by simp
  obj := fun i h st b hb => by
    obtain ⟨⟨old, he⟩, ⟨o, ho, hc, hd⟩, _⟩ := st
    rcases (show b = e ∨ b = it by simpa using hb) with z | z
    · rw [z]; exact ⟨_, he, fun v q => nomatch q⟩
    · rw [z]; exact ⟨o, ho, fun v q => by rw [hd] at q; cases q⟩
  keep := fun i h h' st k => let ⟨⟨old, he⟩, hi, hne⟩ := st; ⟨⟨old, k e (by simp) _ he⟩, hi.at fun o q => k it (by simp) o q, hne⟩
  item := by
    intro X hP hw hK hc i pins s σ H E I hf st hg
    subst hP hw hK
    obtain ⟨⟨old, he⟩, hit, hne, hai, hae⟩ := st
    obtain ⟨xs, x, hq, hx⟩ := hg
    obtain ⟨its, rv, p, hz⟩ := I.tuple hq
    obtain ⟨u, hu, ru⟩ := rv.get hx
    have hel : e < s.heap.objs.size := Heap.lt_size he
    have hil : it < s.heap.objs.size := by obtain ⟨_, q, _⟩ := hit; exact Heap.lt_size q
    have hlt : i < its.toArray.size := by
      rw [List.size_toArray]
      exact (List.getElem?_eq_some_iff.mp hu).1
    refine wpAny_pyNext_enum_itemD (Draws.tuple (prog := X.prog) (w := X.w) (A := X.A.in1) (I.ok.hd hc) it a hai its.toArray) he ⟨hit, p⟩ hlt hne (by simp [hne, Ne.symm hae]) fun y h' tk hy ho hst hT hsz hk => ?_
    have ey : y = u := by
      have q : its[i]? = some y := by simpa using hy
      rw [hu] at q
      exact (Option.some.inj q).symm
    subst ey
    refine ⟨_, rfl, wpAny_letOwnedTupleGo_enum (s := { s with heap := h', toks := tk + 1 }) ho fun h'' he' sb => ?_⟩
    have hT2 : h''.get? s.heap.objs.size = some { cls := .type "tuple", data := .seq #[.int i tk, y] } := (sb.2 _ (Nat.ne_of_gt hel)).trans hT
    have new : ObjOk X.prog X.w (upd H s.heap.objs.size (.tup [.int (i : Nat), x])) h'' s.heap.objs.size (.tup [.int (i : Nat), x]) :=
      ⟨by show 2 ≤ sizeLine; decide, [.int i tk, y], .cons ⟨_, rfl⟩ (.cons ru .nil), ⟨_, hT2, rfl, _, rfl⟩⟩
    have I1 : Inv X pins σ (upd H s.heap.objs.size (.tup [.int (i : Nat), x])) { s with heap := h'', toks := tk + 1 } :=
      I.turnedNew (ch := [e, it]) (fun b ob hb q => (sb.2 b (fun z => hb (by simp [z]))).trans (hk b ob (fun z => hb (by simp [z])) (fun z => hb (by simp [z])) q)) hf (Nat.le_refl _) new
    refine ⟨.ref s.heap.objs.size, _, I1, rfl, ⟨_, x, rfl, I.hok.fresh (Nat.le_refl _), rfl, fun ys hy => by rw [I.tuple_inj hy hq]; exact hx⟩, ⟨⟨y, ?_⟩, hst.1.at fun o q => (sb.2 it (Ne.symm hne)).trans q, hne, hai, hae⟩, fun b hb => ?_⟩
    · have e1 : ((i + 1 : Nat) : Int) = (i : Int) + 1 := by omega
      rw [e1]; exact he'
    · have hb' : b < s.heap.objs.size := by
        rcases (show b = e ∨ b = it by simpa using hb) with z | z
        · rw [z]; exact hel
        · rw [z]; exact hil
      rw [upd_ne (Nat.ne_of_lt hb')]
      exact (hf b hb).1
  done := by
    intro X hP hw hK hc i pins s σ H E I hf st hg
    subst hP hw hK
    obtain ⟨⟨old, he⟩, hit, hne, hai, hae⟩ := st
    obtain ⟨xs, hq, hx⟩ := hg
    obtain ⟨its, rv, p, hz⟩ := I.tuple hq
    obtain ⟨f0, f1, f2, f3, f4, f5⟩ := hf it (by simp)
    have hl := rv.length
    have D : Draws X.prog X.w X.A.in1 it [it, a] i (fun _ _ => False) (fun j h => j = i ∧ h.IsTupleIter it a i ∧ h.IsTuple a its.toArray) :=
      { live := fun _ _ st => let ⟨o, ho, _⟩ := st.2.1; ⟨o, ho⟩
        frame := fun _ _ _ st hk => ⟨st.1, st.2.1.at fun o e => hk it (by simp) o e, st.2.2.at fun o e => hk a (by simp) o e⟩
        item := fun j s Q E hj st => absurd hj (by rw [st.1]; exact Nat.lt_irrefl _)
        done := fun s Q E st hE => wpAny_nextOf_tuple_end (I.ok.hd hc) st.2.1 st.2.2 (by simp; omega) hE }
    exact wpAny_pyNext_enum_endD D he ⟨rfl, hit, p⟩ fun h' eb => ⟨rfl, I.turned (t' := s.toks) (fun b o hb q => eb b o hb q) f0 f1 f3 f4 f5⟩
  self := fun A i s Q E st h => let ⟨⟨_, he⟩, _⟩ := st; wpAny_pyIter_enum he h
def iEnumT (K : PySem.W.Frag) (ta : TA) : TI := fun σ H R => ta σ H fun vs H1 => ∃ a xs, vs = [.ref a] ∧ SqT K H1 a xs ∧ R (IteT K a) H1
theorem pi_enumT {X : Cx} {e : Expr} {ta : TA} {p pos tpos : Pos} {elts : List Expr} {kk : Nat} (hg : Gl X "enumerate") (hm : X.mg "enumerate" = none) (ha : PA X [e] ta) (hs : starEach [e] X.env = [(false, eval e X.env)] := by rfl) :
    PI X (.Tuple elts kk tpos) (.Call (.Name "enumerate" p) [e] [] pos) (iEnumT X.K ta) := by
  refine ⟨fun pins s σ H R I h => ?_⟩
  refine Call_ (ld_blt I hg hm boot_enumerate (PyProof.Rows.callWith_type1 (thn (ha.run pos pins s σ H _ I h) fun us s1 hz => ?_) hs rfl))
  obtain ⟨vs, H1, I1, r1, a, xs, ex, hq, q⟩ := hz
  subst ex
  cases r1 with
  | cons r rr =>
    cases rr
    cases r
    obtain ⟨its, rv, p', hz⟩ := I1.tuple hq
    refine call_enum1 (begins_tuple a its.toArray) p' fun h' he hit hsz hk => wpAny_pyIter_enum he ?_
    have hal : a < s1.heap.objs.size := p'.lt
    refine ⟨s1.heap.objs.size + 1, [s1.heap.objs.size + 1, s1.heap.objs.size], _, _, H1, rfl, I1.kept (t' := s1.toks) hk, turn_enumT a (s1.heap.objs.size + 1) s1.heap.objs.size,
      ⟨⟨.none, he⟩, ⟨_, hit, rfl, rfl⟩, Nat.succ_ne_self _, Nat.ne_of_lt hal, Nat.ne_of_lt (Nat.lt_succ_of_lt hal)⟩, fun b hb => ?_, q⟩
    have hle : s1.heap.objs.size ≤ b := by
      rcases (show b = s1.heap.objs.size + 1 ∨ b = s1.heap.objs.size by simpa using hb) with z | z
      · rw [z]; exact Nat.le_add_right _ _
      · rw [z]; exact Nat.le_refl _
    exact I1.fpOk hle (I1.hok.fresh hle)
theorem walk_enumT {K : PySem.W.Frag} {a : Addr} {xs : List V} : Walk (IteT K a) xs.length (fun H => SqT K H a xs) (YPair (fun i => some (.int (i : Nat))) (fun i => xs[i]?)) := by
  refine ⟨fun i _ hi q => ⟨xs, xs[i], q, by simp [hi]⟩, fun _ q => ⟨xs, q, Nat.le_refl _⟩, fun i H v H' _ q y => ?_⟩
  obtain ⟨T, x, h1, h2, h3, h4⟩ := y
  exact ⟨T, .int (i : Nat), x, h1, h2, h3, rfl, h4 xs q⟩
theorem walk_zipT {K : PySem.W.Frag} {a b : Addr} {xs ys : List V} {n : Nat} (hn : n = min xs.length ys.length) : Walk (RZ.ItzT K a b) n (fun H => SqT K H a xs ∧ SqT K H b ys) (YPair (fun i => xs[i]?) (fun i => ys[i]?)) := by
  subst hn
  refine ⟨fun i _ hi q => ?_, fun _ q => ⟨xs, ys, q.1, q.2, by omega⟩, fun i H v H' _ q y => ?_⟩
  · have h1 : i < xs.length := by omega
    have h2 : i < ys.length := by omega
    exact ⟨xs, ys, xs[i], ys[i], q.1, q.2, by simp [h1], by simp [h2]⟩
  · obtain ⟨T, x, z, h1, h2, h3, h4, h5⟩ := y
    exact ⟨T, x, z, h1, h2, h3, h4 xs q.1, h5 ys q.2⟩

/-! ### sorted(d.keys()) of a dict of int keys -/
section
variable {X : Cx}
/-- the view r of the keys of the dict at d -/
def ViewO (r d : Addr) : HO := .ext fun h => PySem.W.KdlKeysView h r d
def tKeys (td : TE) : TE := fun σ H Q => td σ H fun x H1 => ∃ d, x = .ref d ∧ (∃ kvs, H1 d = some (.dK kvs)) ∧ ∀ r, H1 r = Option.none → Q (.ref r) (upd H1 r (ViewO r d))
theorem pe_keys {e : Expr} {td : TE} {apos cpos : Pos} (he : PE X e td) (hbase : attributeBase e "keys" X.env (eval e X.env) = eval e X.env := by rfl) (hline : (apos.endLine == cpos.line) = true := by rfl) :
    PE X (.Call (.Attribute e "keys" apos) [] [] cpos) (tKeys td) := by
  refine ⟨fun pins s σ H Q I h => ?_⟩
  refine wpAny_Call_method (T := "dict") (id := "dict.keys") hbase rfl hline F.plainAttrs_dict F.slot_dict_keys F.type_dict_keys (thn (he.run pins s σ H _ I h) fun u s1 hz => ?_)
  obtain ⟨x, H1, I1, rx, d, ex, ⟨kvs, hd⟩, q⟩ := hz
  subst ex
  obtain rfl : u = Value.ref d := rx
  obtain ⟨z, lo, vs, rel, dd⟩ := dk_of I1.hok hd
  refine ⟨dd.typeIs, dd.mapOf.noDict, ?_⟩
  show wpAny _ _ (callWith cpos (.builtin "dict.keys") [.ref d] [] []) _ X.xe s1
  have fin : EP X pins σ Q (.ref s1.heap.objs.size) { s1 with heap := s1.heap.push { cls := .type "dict_keys", data := .fields #[.ref d] } } := by
    refine ⟨.ref s1.heap.objs.size, upd H1 s1.heap.objs.size (ViewO s1.heap.objs.size d), I1.laid (t' := s1.toks) (fun b u e => Heap.get?_push_of_some _ e) (Nat.le_refl _) ?_, rfl, q _ (I1.hok.fresh (Nat.le_refl _))⟩
    refine ⟨⟨_, Heap.get?_push_size _ rfl, rfl, rfl⟩, ⟨_, Heap.get?_push_size _ rfl⟩, fun h1 h2 a b => ?_⟩
    obtain ⟨o, ho, c⟩ := a
    exact ⟨o, b o ho, c⟩
  exact method_meetsIn F.slot_dict_keys F.entry_dict_keys rfl (PySem.evalArgs_none ⟨rfl, dd.typeIs, F.args_dict_keys_1 _, _, PySem.W.kdl_meets_keys (mixKind X.prog X.w) d lo, ⟨vs, dd⟩, fin⟩)
theorem call_sortedK (hcalm : X.calm = true) : CallR X (.builtin "sorted") (fun xs H Q => ∃ (r d : Addr) (kvs : List (Key × V)) (ks : List Int), xs = [.ref r] ∧ H r = some (ViewO r d) ∧ H d = some (.dK kvs) ∧ kvs.map (·.1) = ks.map Sum.inl ∧ ks.length < 64 ∧
    ∀ (ys : List Int) (p : Addr), ys.Perm ks → ys.Pairwise (· ≤ ·) → H p = Option.none → Q (.ref p) (upd H p (.lst (ys.map V.int)))) := by
  intro pins s σ H xs us Q I rr q
  obtain ⟨r, d, kvs, ks, ex, hr, hd, hks, h64, q⟩ := q
  subst ex
  obtain ⟨u, eu, rx⟩ := vals1 rr
  subst eu
  cases rx
  have hv : PySem.W.KdlKeysView s.heap r d := (I.hok r _ hr).1
  obtain ⟨z, lo, vs, rel, dd⟩ := dk_of I.hok hd
  obtain ⟨ep, hat⟩ := dd.dictAt
  have hkeys : vs.map (·.1) = ks.map Sum.inl := rel.keys.symm.trans hks
  have hl : vs.length = ks.length := by simpa using congrArg List.length hkeys
  have h16 : vs.length ≤ sizeLine := by rw [hl, sizeLine_eq]; omega
  refine Calls.call_function_entry PyProof.Rows.kind_sorted PyProof.Rows.plain_sorted PyProof.Rows.entry_sorted (PyProof.Rows.args_sorted1 _) ?_
  unfold Builtin.«sorted»
  refine wpAny_bind (m := checkCount "sorted" 1 1 _) (wpAny_pure ?_)
  refine wpAny_bind (PySem.W.kdu_collect (A := X.A.in1) (PySem.W.kdl_keys (knd := mixKind X.prog X.w) (r := r) (d := d) (kvs := vs) (ep := ep)) (I.ok.hd hcalm) ⟨hv, hat⟩ h16 fun h' tk acc hk hacc => ?_)
  have hal : acc.toList.length = ks.length := by rw [Array.length_toList, hacc.1, hl]
  have hS : IntsAre acc.toList ks := ints_each hal fun j v e => by
    obtain ⟨k, x, e1, e2⟩ := hacc.2 j v (by rw [← Array.getElem?_toList]; exact e)
    have e3 : (vs.map (·.1))[j]? = some k := by rw [List.getElem?_map, e1]; rfl
    rw [hkeys, List.getElem?_map] at e3
    obtain ⟨y, ey, e4⟩ := Option.map_eq_some_iff.mp e3
    subst e4
    rcases keyIs_shape (show keyIs (Sum.inl y) v = true from e2) with ⟨i, t, ek, ev⟩ | ⟨_, t, ek, ev⟩
    · cases ek
      exact ⟨y, t, ey, ev⟩
    · cases ek
  have I1 : Inv X pins σ H { s with heap := h', toks := tk } := I.kept hk
  refine wpAny_bind (wpAny_newList ?_ (by rw [hal, sizeLine_eq]; omega))
  have hoL : (h'.push (seqObj "list" acc.toList.toArray 0)).get? h'.objs.size = some (seqObj "list" acc.toList.toArray 0) := Heap.get?_push_size _ rfl
  show wpAny _ _ _ _ _ { s with heap := h'.push (seqObj "list" acc.toList.toArray 0), toks := tk }
  refine wpAny_bind (wpAny_holding (wpAny_call_entry PyProof.Rows.slot_list_sort ⟨_, hoL, rfl⟩ PyProof.Rows.entry_list_sort
    (PyProof.Rows.list_sort_tree (s := { s with heap := h'.push (seqObj "list" acc.toList.toArray 0), toks := tk }) hoL hS (by rw [hal]; exact h64) fun out ys g1 g2 g3 => ⟨_, rfl, ?_⟩) (PyProof.Rows.args_list_sort _)))
  obtain ⟨e', he'⟩ := PyProof.Rows.sortedHeap_at (vs := acc.toList) (out := out) hoL
  have hlen : (ys.map V.int).length ≤ sizeLine := by
    rw [List.length_map, g2.length_eq]
    exact Nat.le_trans (Nat.le_of_lt h64) (by decide)
  refine wpAny_pure ⟨_, rfl, .ref h'.objs.size, upd H h'.objs.size (.lst (ys.map V.int)), I1.laid (t' := tk) (fun b u e => ?_) (Nat.le_refl _)
    (show ObjOk X.prog X.w _ _ _ (.lst (ys.map V.int)) from ⟨hlen, out.toList, e', vals_of_ints g1, by rw [Array.toArray_toList]; exact he'⟩), rfl, q ys _ g2 g3 (I1.hok.fresh (Nat.le_refl _))⟩
  have hb : b < h'.objs.size := Heap.lt_size e
  rw [PyProof.Rows.sortedHeap_old (Nat.ne_of_lt hb) (by rw [size_push']; exact Nat.lt_succ_of_lt hb)]
  exact Heap.get?_push_of_some _ e
end
end Cm

/-! a dict of things by births -/
namespace Cm
open PySem L2
/-- a thing: a word, then data without lists -/
def windD (b : Int) : PyData := .tuple [.str "wind", .int (1000 + b), .int (2000 + b)]
def wordD : PyData → Str
  | .tuple (.str x :: _) => x
  | _ => ""
structure Th (b : Int) (d : PyData) : Prop where
  ex : ∃ (wd : Str) (r : List PyData), d = .tuple (.str wd :: r)
  fl : flatD d = true
  ok : okD d = true
  dp : d.depth ≤ 8
  wt : d.weight ≤ 4000
  wn : wordD d = "wind" → d = windD b
/-- the dict at d holds es -/
structure ThAt (K : PySem.W.Frag) (H : Hp) (d : Addr) (es : List (Int × PyData)) (kvs : List (Key × V)) : Prop where
  at_ : H d = some (.dK kvs)
  ks : kvs.map (·.1) = es.map (fun e => Sum.inl e.1)
  vs : DpAll K H (kvs.map (·.2)) (es.map (·.2))
  th : ∀ e ∈ es, Th e.1 e.2
def thg (es : List (Int × PyData)) (b : Int) : PyData := ((es.find? fun e => decide (e.1 = b)).map (·.2)).getD .none
def word (es : List (Int × PyData)) (b : Int) : Str := wordD (thg es b)
theorem th_find {K : PySem.W.Frag} {H : Hp} (b : Int) : ∀ (es : List (Int × PyData)) (kvs : List (Key × V)), kvs.map (·.1) = es.map (fun e => (Sum.inl e.1 : Key)) → DpAll K H (kvs.map (·.2)) (es.map (·.2)) →
    b ∈ es.map (·.1) → ∃ v, valV kvs (Sum.inl b) = some v ∧ Dp K H v (thg es b) ∧ (b, thg es b) ∈ es
  | [], _, _, _, m => by simp at m
  | e :: es, kvs, hk, hv, m => by
    cases kvs with
    | nil => simp at hk
    | cons a kvs =>
      simp only [List.map_cons, List.cons.injEq] at hk
      cases hv with
      | cons h1 h2 =>
        by_cases q : e.1 = b
        · refine ⟨a.2, ?_, ?_, ?_⟩
          · unfold valV
            rw [List.find?_cons_of_pos (by rw [hk.1, q]; simp)]
            rfl
          · have : thg (e :: es) b = e.2 := by
              unfold thg
              rw [List.find?_cons_of_pos (by simp [q])]
              rfl
            rw [this]
            exact h1
          · have : thg (e :: es) b = e.2 := by
              unfold thg
              rw [List.find?_cons_of_pos (by simp [q])]
              rfl
            rw [this, ← q]
            exact List.mem_cons_self
        · have m' : b ∈ es.map (·.1) := by
            simp only [List.map_cons, List.mem_cons] at m
            rcases m with m | m
            · exact absurd m.symm q
            · exact m
          obtain ⟨v, g1, g2, g3⟩ := th_find b es kvs hk.2 h2 m'
          have e2 : thg (e :: es) b = thg es b := by
            unfold thg
            rw [List.find?_cons_of_neg (by simpa using q)]
          refine ⟨v, ?_, by rw [e2]; exact g2, by rw [e2]; exact List.mem_cons_of_mem _ g3⟩
          unfold valV at g1 ⊢
          rw [List.find?_cons_of_neg (by rw [hk.1]; simpa using q)]
          exact g1
theorem ThAt.get {K : PySem.W.Frag} {H : Hp} {d : Addr} {es : List (Int × PyData)} {kvs : List (Key × V)} (x : ThAt K H d es kvs) {b : Int} (m : b ∈ es.map (·.1)) :
    ∃ (p : Addr) (its : List V), DGet H d (.int b) (some (.ref p)) ∧ SqT K H p its ∧ atI its 0 = some (.str (word es b)) ∧ Dp K H (.ref p) (thg es b) ∧ Th b (thg es b) := by
  obtain ⟨v, h1, h2, h3⟩ := th_find b es kvs x.ks x.vs m
  have t : Th b (thg es b) := x.th _ h3
  obtain ⟨wd, r, ed⟩ := t.ex
  have h2' := h2
  have e3 : word es b = wd := by
    unfold word
    rw [ed]
    rfl
  rw [ed] at h2'
  cases h2' with
  | @tup a its ds hs ha =>
    refine ⟨a, its, ?_, hs, ?_, by rw [ed]; exact .tup hs ha, t⟩
    · have q := DGet.k (k := Sum.inl b) x.at_
      rw [h1] at q
      exact q
    · rw [e3]
      cases ha with
      | cons q1 q2 =>
        cases q1
        exact atI_nat (j := 0) rfl
theorem putK_end {kvs : List (Key × V)} {k : Key} {v : V} (h : ∀ p ∈ kvs, p.1 ≠ k) : putK kvs k v = kvs ++ [(k, v)] := by
  unfold putK
  rw [if_neg]
  intro q
  obtain ⟨p, hp, e⟩ := List.any_eq_true.mp q
  exact h p hp (of_decide_eq_true e)
theorem decS {x y : Str} : decide (V.str x = V.str y) = decide (x = y) := by
  by_cases q : x = y
  · rw [q]; simp
  · rw [decide_eq_false q, decide_eq_false (fun z => q (V.str.inj z))]
theorem ThAt.same {K : PySem.W.Frag} {H H' : Hp} {d : Addr} {es : List (Int × PyData)} {kvs : List (Key × V)} (x : ThAt K H d es kvs) (s : Same H H') : ThAt K H' d es kvs :=
  ⟨s _ _ x.at_, x.ks, dps_same s _ _ x.vs, x.th⟩
theorem flatDs_of : ∀ ds : List PyData, (∀ d ∈ ds, flatD d = true) → flatDs ds = true
  | [], _ => rfl
  | d :: ds, h => by simp [flatDs, h d List.mem_cons_self, flatDs_of ds fun x hx => h x (List.mem_cons_of_mem _ hx)]
theorem ThAt.fl {K : PySem.W.Frag} {H : Hp} {d : Addr} {es : List (Int × PyData)} {kvs : List (Key × V)} (x : ThAt K H d es kvs) : flatDs (es.map (·.2)) = true :=
  flatDs_of _ fun z hz => by
    obtain ⟨e, he, rfl⟩ := List.mem_map.mp hz
    exact (x.th e he).fl
theorem ThAt.kp {M : Addr → Prop} {K : PySem.W.Frag} {H H' : Hp} {d : Addr} {es : List (Int × PyData)} {kvs : List (Key × V)} (x : ThAt K H d es kvs) (k : Kp M H H') (n : ¬ M d) : ThAt K H' d es kvs :=
  ⟨k.st _ _ n x.at_, x.ks, dps_keep (fun _ _ h => k.tup h) _ _ x.fl x.vs, x.th⟩
theorem wt_int {i : Int} (h : i.natAbs < 10 ^ 12) : PyData.weight (.int i) ≤ 64 := by
  simp only [PyData.weight]
  split
  · omega
  · rename_i q
    have q' : i.natAbs ≠ 0 := by
      intro z
      apply q
      simp
      omega
    have := (Nat.log2_lt q').mpr (show i.natAbs < 2 ^ 63 from Nat.lt_of_lt_of_le h (by decide))
    omega
theorem ThAt.snoc {K : PySem.W.Frag} {H : Hp} {d : Addr} {es : List (Int × PyData)} {kvs : List (Key × V)} (x : ThAt K H d es kvs) {b : Int} {v : V} {t : PyData} (n : b ∉ es.map (·.1)) (hv : Dp K H v t) (ht : Th b t) :
    ThAt K (upd H d (.dK (putK kvs (Sum.inl b) v))) d (es ++ [(b, t)]) (putK kvs (Sum.inl b) v) := by
  have e1 : putK kvs (Sum.inl b) v = kvs ++ [(Sum.inl b, v)] := putK_end fun p hp q => n (by
    have : p.1 ∈ kvs.map (·.1) := List.mem_map.mpr ⟨p, hp, rfl⟩
    rw [x.ks] at this
    obtain ⟨e, he, e2⟩ := List.mem_map.mp this
    rw [q] at e2
    exact List.mem_map.mpr ⟨e, he, Sum.inl.inj e2⟩)
  have keep : ∀ a xs, SqT K H a xs → SqT K (upd H d (.dK (putK kvs (Sum.inl b) v))) a xs := fun a xs h => by
    rcases h with (h | ⟨o, h⟩) | h
    · exact .inl (.inl (by rw [upd_ne (ne_of h x.at_ (by intro z; cases z))]; exact h))
    · exact .inl (.inr ⟨o, by rw [upd_ne (ne_of h x.at_ (by intro z; cases z))]; exact h⟩)
    · exact .inr h
  refine ⟨upd_same, ?_, ?_, ?_⟩
  · rw [e1, List.map_append, List.map_append, x.ks]
    rfl
  · have h1 := dps_keep keep _ _ x.fl x.vs
    have h2 := dp_keep keep _ _ ht.fl hv
    rw [show (putK kvs (Sum.inl b) v).map (·.2) = kvs.map (·.2) ++ [v] by rw [e1, List.map_append]; rfl, List.map_append]
    exact DpAll.snoc h2 h1
  · intro e he
    rcases List.mem_append.mp he with he | he
    · exact x.th e he
    · cases List.mem_singleton.mp he
      exact ht
theorem Kp.mut {M : Addr → Prop} {H H' : Hp} {d : Addr} {o : HO} (k : Kp M H H') (hd : H d = Option.none) : Kp M H (upd H' d o) :=
  ⟨fun a u n e => by
    rw [upd_ne (ne_of_none e hd)]
    exact k.st a u n e, k.l1, fun a m => by
    have q : a ≠ d := fun q => k.m_of hd (q ▸ m)
    rw [upd_ne q]
    exact k.l2 a m⟩
theorem Hand.put {H : Hp} {h c d : Addr} {o : HO} (x : Hand H h c) (n : ∀ xs, H d ≠ some (.lst xs)) : Hand (upd H d o) h c := by
  obtain ⟨cells, i, b, t, e1, e2, q⟩ := x
  refine ⟨cells, i, b, t, ?_, ?_, q⟩
  · rw [upd_ne (fun z => n _ (z ▸ e1))]
    exact e1
  · rw [upd_ne (fun z => n _ (z ▸ e2))]
    exact e2
theorem Hand.puts {H : Hp} {h c d : Addr} {o : HO} (x : Hand H h c) (n1 : d ≠ h) (n2 : d ≠ c) : Hand (upd H d o) h c := by
  obtain ⟨cells, i, b, t, e1, e2, q⟩ := x
  exact ⟨cells, i, b, t, by rw [upd_ne (Ne.symm n1)]; exact e1, by rw [upd_ne (Ne.symm n2)]; exact e2, q⟩
theorem Hand.there {H : Hp} {h c d : Addr} (x : Hand H h c) (n : H d = Option.none) : d ≠ h ∧ d ≠ c := by
  obtain ⟨cells, i, b, t, e1, e2, q⟩ := x
  exact ⟨(ne_of_none e1 n).symm, (ne_of_none e2 n).symm⟩
theorem Hand.ne {H : Hp} {h c d : Addr} (x : Hand H h c) (n : ∀ xs, H d ≠ some (.lst xs)) : d ≠ h := fun z => by
  obtain ⟨xs, e⟩ := x.lst
  exact n xs (z ▸ e)
/-- 1 .. n -/
def births (n : Nat) : List Int := (List.range n).map fun (i : Nat) => (i : Int) + 1
theorem births_succ (n : Nat) : births (n + 1) = births n ++ [(n : Int) + 1] := by
  unfold births
  rw [List.range_succ, List.map_append]
  rfl
theorem births_mem {n : Nat} {b : Int} : b ∈ births n ↔ 1 ≤ b ∧ b ≤ n := by
  unfold births
  rw [List.mem_map]
  constructor
  · rintro ⟨i, hi, rfl⟩
    have := List.mem_range.mp hi
    omega
  · intro q
    exact ⟨(b - 1).toNat, List.mem_range.mpr (by omega), by omega⟩
/-- a new thing is put at the next birth -/
theorem things_put {K : PySem.W.Frag} {H H3 : Hp} {h c d : Addr} {es : List (Int × PyData)} {kvs : List (Key × V)} {i : Nat} {v : V} {t : PyData} (kh : Kh h H H3) (hh : Hand H3 h c) (x : ThAt K H3 d es kvs) (hd : H d = Option.none)
    (hk : es.map (·.1) = births i) (hi : i < 1000) (hv : Dp K H3 v t) (ht : Th (1 + i) t) :
    ∃ H4 es' kvs', DPut H3 d (.int (1 + (i : Nat))) v H4 ∧ Kh h H H4 ∧ Hand H4 h c ∧ ThAt K H4 d es' kvs' ∧ es'.map (·.1) = births (i + 1) := by
  have hb : (1 : Int) + i ∉ es.map (·.1) := by
    rw [hk, births_mem]
    omega
  have hl : kvs.length < sizeLine := by
    have e := congrArg List.length x.ks
    rw [List.length_map, List.length_map] at e
    have e2 := congrArg List.length hk
    rw [List.length_map] at e2
    have e3 : (births i).length = i := by unfold births; rw [List.length_map, List.length_range]
    rw [e, e2, e3]
    exact Nat.lt_trans hi (by decide)
  refine ⟨_, _, _, DPut.k (k := Sum.inl (1 + (i : Int))) x.at_ hl, kh.mut hd, hh.put (fun xs e => by rw [x.at_] at e; cases e), x.snoc hb hv ht, ?_⟩
  rw [List.map_append, hk, births_succ]
  show births i ++ [1 + (i : Int)] = _
  rw [show (1 : Int) + i = i + 1 by omega]
theorem births_len (n : Nat) : (births n).length = n := by
  unfold births
  rw [List.length_map, List.length_range]
end Cm

/-! comprehensions over data -/
namespace Cm
open PySem L2
theorem sqt_put {K : PySem.W.Frag} {H : Hp} {D a : Addr} {xs ys zs : List V} (h : H D = some (.lst ys)) (q : SqT K H a xs) : SqT K (upd H D (.lst zs)) a xs := by
  rcases q with (q | ⟨o, q⟩) | q
  · exact .inl (.inl (by rw [upd_ne (ne_of q h (by intro z; cases z))]; exact q))
  · exact .inl (.inr ⟨o, by rw [upd_ne (ne_of q h (by intro z; cases z))]; exact q⟩)
  · exact .inr q
theorem same_put {H H' : Hp} {D : Addr} {o : HO} (s : Same H H') (h : H D = Option.none) : Same H (upd H' D o) := fun b u e => by
  rw [upd_ne (ne_of_none e h)]
  exact s b u e
theorem sqt_same {K : PySem.W.Frag} {H H' : Hp} {a : Addr} {xs : List V} (s : Same H H') (h : SqT K H a xs) : SqT K H' a xs := by
  rcases h with (h | ⟨o, h⟩) | h
  · exact .inl (.inl (s _ _ h))
  · exact .inl (.inr ⟨o, s _ _ h⟩)
  · exact .inr h
theorem flatDs_all {ds : List PyData} (h : flatDs ds = true) : ∀ d ∈ ds, flatD d = true := by
  induction ds with
  | nil => intro d hd; cases hd
  | cons a r ih =>
    have h' : flatD a = true ∧ flatDs r = true := by simpa [flatDs] using h
    intro d hd
    rcases List.mem_cons.mp hd with rfl | hd
    · exact h'.1
    · exact ih h'.2 d hd
theorem flatDs_app {ds es : List PyData} (h1 : flatDs ds = true) (h2 : flatDs es = true) : flatDs (ds ++ es) = true :=
  flatDs_of _ fun d hd => by
    rcases List.mem_append.mp hd with q | q
    · exact flatDs_all h1 d q
    · exact flatDs_all h2 d q
theorem walk_upto {n : Nat} : Walk (Itr 0 n) n (fun _ => True) (YFn fun i => .int ((i : Nat) : Int)) :=
  ⟨fun _ _ hi _ => hi, fun _ _ => Nat.le_refl _, fun i H x H' _ _ y => ⟨y.1, by
    have := y.2
    rw [Int.zero_add] at this
    exact this⟩⟩
/-! ### the same rules where the context is a comprehension's block: K is said -/
section
variable {X : Cx} {K : PySem.W.Frag}
theorem kx_tup (h : X.K = K := by rfl) : IxR X (rIxT K) := by subst h; exact ix_tup
theorem kx_list (h : X.K = K := by rfl) : IxR X (rIxL K) := by subst h; exact ix_list
theorem kx_seq (h : X.K = K := by rfl) : IxR X (rIx K) := by subst h; exact ix_seq
theorem ko_eqD (hu : X.A.units + 64 < cLine) (h : X.K = K := by rfl) : OpR X (compareOp .Eq) (rEqD K) := by subst h; exact op_eqD hu
theorem ko_neD (hu : X.A.units + 64 < cLine) (h : X.K = K := by rfl) : OpR X (compareOp .NotEq) (rNeD K) := by subst h; exact op_neD hu
theorem ko_in (h : X.K = K := by rfl) : OpR X (compareOp .In) (rIn K false) := by subst h; exact op_in_seq
theorem ko_notIn (h : X.K = K := by rfl) : OpR X (compareOp .NotIn) (rIn K true) := by subst h; exact op_notIn_seq
theorem ko_catA (h : X.K = K := by rfl) : OpR X (binaryOp .Add) (rCatA K) := by subst h; exact op_catA
def rLen (K : PySem.W.Frag) : List V → Hp → VK → Prop := fun xs H Q => ∃ p ys, xs = [.ref p] ∧ (SqL K H p ys ∨ SqT K H p ys) ∧ Q (.int ys.length) H
theorem kc_len (h : X.K = K := by rfl) : CallR X (.builtin "len") (rLen K) := by subst h; exact call_len_seq
end
/-- a comprehension whose items are data without lists: R i is the i-th turn's, none if it is left out -/
theorem lc_data {K : PySem.W.Frag} {J : It} {n : Nat} {G : Hp → Prop} {Y : Nat → Hp → V → Hp → Prop} (wk : Walk J n G Y) {g : TG} {tt : TT} {te : TE} {vs : List Nat} {σ : L2.St} {H1 : Hp} {D : Addr} {Qd : Hp → Prop} (R : Nat → Option PyData)
    (hD : H1 D = Option.none) (hn : n ≤ 100000) (hG : ∀ H, Same H1 H → G H) (hfl : ∀ i < n, ∀ d, R i = some d → flatD d = true)
    (hs : ∀ i x H H', i < n → Same H1 H → Y i H x H' → ∀ (Q1 : VK) (Q0 : Hp → Prop), (∀ v H4 d, R i = some d → Same H H4 → Dp K H4 v d → Q1 v H4) → (∀ H3, R i = none → Same H H3 → Q0 H3) →
      g x (wipe σ vs) H' fun σ2 H2 => wipe σ2 vs = wipe σ vs ∧ tt σ2 H2 fun b H3 => if b = true then te σ2 H3 Q1 else Q0 H3)
    (hd : ∀ H acc, Same H1 H → H D = some (.lst acc) → DpAll K H acc ((List.range n).filterMap R) → Qd H) :
    ∃ W : Nat → Nat → Hp → Prop, (∃ m, W 0 m (upd H1 D (.lst []))) ∧ ∀ i m H, W i m H →
      (J.stop i H ∧ Qd H) ∨ (J.go i H ∧ ∃ Nx : Hp → Prop, (∀ H', Nx H' → ∃ m', m' < m ∧ W (i + 1) m' H') ∧ ∀ x H', J.yld i H x H' → g x (wipe σ vs) H' fun σ2 H2 => wipe σ2 vs = wipe σ vs ∧ tt σ2 H2 fun b H3 =>
        if b = true then te σ2 H3 fun y H4 => ∃ acc, H4 D = some (.lst acc) ∧ acc.length < sizeLine ∧ Nx (upd H4 D (.lst (acc ++ [y]))) else Nx H3) := by
  have fl : ∀ i ≤ n, flatDs ((List.range i).filterMap R) = true := fun i hi => flatDs_of _ fun d hd => by
    obtain ⟨j, hj, e⟩ := List.mem_filterMap.mp hd
    exact hfl j (by have := List.mem_range.mp hj; omega) d e
  refine lc_it wk (fun i H => ∃ acc, Same H1 H ∧ H D = some (.lst acc) ∧ DpAll K H acc ((List.range i).filterMap R) ∧ acc.length ≤ i) ⟨[], same_new hD, upd_same, .nil, Nat.le_refl _⟩ (fun i H _ z => ?_) ?_ ?_
  · obtain ⟨acc, s, _⟩ := z
    exact hG H s
  · rintro i x H H' hi ⟨acc, s, hacc, ha, hl⟩ y
    refine hs i x H H' hi s y _ _ (fun v H4 d e s4 hv => ?_) (fun H3 e s3 => ?_)
    · have hD4 := s4 _ _ hacc
      refine ⟨acc, hD4, Nat.lt_of_le_of_lt hl (Nat.lt_of_lt_of_le (show i < 100000 by omega) (by decide)), acc ++ [v], same_put (s.trans s4) hD, upd_same, ?_, by rw [List.length_append]; exact Nat.succ_le_succ hl⟩
      rw [List.range_succ, List.filterMap_append]
      have e1 : ([i].filterMap R) = [d] := by simp [e]
      rw [e1]
      exact DpAll.snoc (dp_keep (fun _ _ q => sqt_put hD4 q) _ _ (hfl i hi d e) hv) (dps_keep (fun _ _ q => sqt_put hD4 q) _ _ (fl i (by omega)) (dps_same s4 _ _ ha))
    · refine ⟨acc, s.trans s3, s3 _ _ hacc, ?_, by omega⟩
      rw [List.range_succ, List.filterMap_append]
      have e1 : ([i].filterMap R) = [] := by simp [e]
      rw [e1, List.append_nil]
      exact dps_same s3 _ _ ha
  · rintro H ⟨acc, s, hacc, ha, _⟩
    exact hd H acc s hacc ha
/-- a comprehension that draws: each item is data that is good -/
theorem lc_draw {K : PySem.W.Frag} {M : Addr → Prop} {J : It} {n : Nat} {G : Hp → Prop} {Y : Nat → Hp → V → Hp → Prop} (wk : Walk J n G Y) {g : TG} {tt : TT} {te : TE} {vs : List Nat} {σ : L2.St} {H1 : Hp} {D : Addr} {Qd : Hp → Prop}
    (I : Hp → Prop) (Gd : PyData → Prop) (hM : ∀ a, M a → ∃ xs, H1 a = some (.lst xs)) (h0 : I (upd H1 D (.lst []))) (hI : ∀ H ys, Kp M H1 H → I H → I (upd H D (.lst ys)))
    (hD : H1 D = Option.none) (hn : n ≤ 100000) (hG : ∀ H, Kp M H1 H → I H → G H) (hfl : ∀ d, Gd d → flatD d = true)
    (hs : ∀ i x H H', i < n → Kp M H1 H → I H → Y i H x H' → ∀ (Q1 : VK) (Q0 : Hp → Prop), (∀ v H4 d, Gd d → Kp M H H4 → I H4 → Dp K H4 v d → Q1 v H4) → (∀ H3, Kp M H H3 → I H3 → Q0 H3) →
      g x (wipe σ vs) H' fun σ2 H2 => wipe σ2 vs = wipe σ vs ∧ tt σ2 H2 fun b H3 => if b = true then te σ2 H3 Q1 else Q0 H3)
    (hd : ∀ H acc ds, Kp M H1 H → I H → H D = some (.lst acc) → DpAll K H acc ds → (∀ d ∈ ds, Gd d) → ds.length ≤ n → Qd H) :
    ∃ W : Nat → Nat → Hp → Prop, (∃ m, W 0 m (upd H1 D (.lst []))) ∧ ∀ i m H, W i m H →
      (J.stop i H ∧ Qd H) ∨ (J.go i H ∧ ∃ Nx : Hp → Prop, (∀ H', Nx H' → ∃ m', m' < m ∧ W (i + 1) m' H') ∧ ∀ x H', J.yld i H x H' → g x (wipe σ vs) H' fun σ2 H2 => wipe σ2 vs = wipe σ vs ∧ tt σ2 H2 fun b H3 =>
        if b = true then te σ2 H3 fun y H4 => ∃ acc, H4 D = some (.lst acc) ∧ acc.length < sizeLine ∧ Nx (upd H4 D (.lst (acc ++ [y]))) else Nx H3) := by
  have nM : ¬ M D := fun m => by
    obtain ⟨xs, e⟩ := hM D m
    rw [hD] at e
    cases e
  refine lc_it wk (fun i H => ∃ acc ds, Kp M H1 H ∧ I H ∧ H D = some (.lst acc) ∧ DpAll K H acc ds ∧ (∀ d ∈ ds, Gd d) ∧ ds.length ≤ i) ⟨[], [], Kp.new hM hD, h0, upd_same, .nil, (by intro d hd; cases hd), Nat.le_refl _⟩ (fun i H _ z => ?_) ?_ ?_
  · obtain ⟨acc, ds, s, iH, _⟩ := z
    exact hG H s iH
  · rintro i x H H' hi ⟨acc, ds, s, iH, hacc, ha, hg, hl⟩ y
    have fl : flatDs ds = true := flatDs_of _ fun d hd => hfl d (hg d hd)
    refine hs i x H H' hi s iH y _ _ (fun v H4 d e s4 i4 hv => ?_) (fun H3 s3 i3 => ?_)
    · have hD4 := s4.st _ _ nM hacc
      refine ⟨acc, hD4, ?_, acc ++ [v], ds ++ [d], (s.trans s4).mut hD, hI _ _ (s.trans s4) i4, upd_same, ?_, ?_, by rw [List.length_append]; exact Nat.succ_le_succ hl⟩
      · rw [DpAll.len ha]
        exact Nat.lt_of_le_of_lt hl (Nat.lt_of_lt_of_le (show i < 100000 by omega) (by decide))
      · exact DpAll.snoc (dp_keep (fun _ _ q => sqt_put hD4 q) _ _ (hfl d e) hv) (dps_keep (fun _ _ q => sqt_put hD4 q) _ _ fl (dps_keep (fun _ _ q => s4.tup q) _ _ fl ha))
      · intro d' hd'
        rcases List.mem_append.mp hd' with q | q
        · exact hg d' q
        · cases List.mem_singleton.mp q
          exact e
    · exact ⟨acc, ds, s.trans s3, i3, s3.st _ _ nM hacc, dps_keep (fun _ _ q => s3.tup q) _ _ fl ha, hg, by omega⟩
  · rintro H ⟨acc, ds, s, iH, hacc, ha, hg, hl⟩
    exact hd H acc ds s iH hacc ha hg hl
/-! ### data that repr takes -/
structure Sm (D W : Nat) (d : PyData) : Prop where
  ok : okD d = true
  dp : d.depth ≤ D
  wt : d.weight ≤ W
theorem Sm.mono {D W D' W' : Nat} {d : PyData} (x : Sm D W d) (h1 : D ≤ D') (h2 : W ≤ W') : Sm D' W' d := ⟨x.ok, Nat.le_trans x.dp h1, Nat.le_trans x.wt h2⟩
theorem sm_int {i : Int} (h : i.natAbs < 10 ^ 12) : Sm 0 64 (.int i) := ⟨by simp only [okD]; exact decide_eq_true h, by simp [PyData.depth], wt_int h⟩
theorem sm_all {D W : Nat} : ∀ {ds : List PyData}, (∀ d ∈ ds, Sm D W d) → okDs ds = true ∧ PyData.depthAll ds ≤ D ∧ PyData.weightAll ds ≤ ds.length * (W + 2)
  | [], _ => ⟨rfl, by simp [PyData.depthAll], by simp [PyData.weightAll]⟩
  | d :: ds, h => by
    have a := h d List.mem_cons_self
    obtain ⟨b1, b2, b3⟩ := sm_all (ds := ds) fun x hx => h x (List.mem_cons_of_mem _ hx)
    refine ⟨by simp [okDs, a.ok, b1], ?_, ?_⟩
    · have := a.dp
      simp only [PyData.depthAll]
      omega
    · have := a.wt
      simp only [PyData.weightAll, List.length_cons, Nat.add_mul]
      omega
theorem Sm.tuple {D W m : Nat} {ds : List PyData} (h : ∀ d ∈ ds, Sm D W d) (hm : ds.length ≤ m) : Sm (D + 1) (m * (W + 2)) (.tuple ds) := by
  obtain ⟨a, b, c⟩ := sm_all h
  refine ⟨by simpa [okD] using a, ?_, ?_⟩
  · simp only [PyData.depth]
    omega
  · simp only [PyData.weight]
    exact Nat.le_trans c (Nat.mul_le_mul_right _ hm)
theorem Sm.rep {K : PySem.W.Frag} {H : Hp} {x : V} {D W : Nat} {d : PyData} {Q : VK} (s : Sm D W d) (h1 : D ≤ 60) (h2 : W ≤ 2 ^ 20) (hd : Rp K H x d) (q : Q (.str d.shown) H) : rRepr K [x] H Q :=
  ⟨x, d, rfl, hd, s.ok, Nat.le_trans s.dp h1, Nat.le_trans s.wt h2, q⟩
theorem sm_kv {D W : Nat} : ∀ {es : List (Int × PyData)}, (∀ e ∈ es, e.1.natAbs < 10 ^ 12 ∧ Sm D W e.2) → okDk (es.map fun e => (PyData.int e.1, e.2)) = true ∧ PyData.depthKv (es.map fun e => (PyData.int e.1, e.2)) ≤ D ∧ PyData.weightKv (es.map fun e => (PyData.int e.1, e.2)) ≤ es.length * (W + 70)
  | [], _ => ⟨rfl, by simp [PyData.depthKv], by simp [PyData.weightKv]⟩
  | e :: es, h => by
    obtain ⟨a1, a⟩ := h e List.mem_cons_self
    obtain ⟨b1, b2, b3⟩ := sm_kv (es := es) fun x hx => h x (List.mem_cons_of_mem _ hx)
    have i := sm_int a1
    refine ⟨by simp [okDk, a.ok, b1, i.ok], ?_, ?_⟩
    · have := a.dp
      have := i.dp
      simp only [List.map_cons, PyData.depthKv]
      omega
    · have := a.wt
      have := i.wt
      simp only [List.map_cons, PyData.weightKv, List.length_cons, Nat.add_mul] at this ⊢
      omega
/-- what repr is asked of -/
def Rok (K : PySem.W.Frag) (H : Hp) (x : V) (d : PyData) : Prop := Rp K H x d ∧ okD d = true ∧ d.depth ≤ 60 ∧ d.weight ≤ 2 ^ 20
theorem Sm.rok {K : PySem.W.Frag} {H : Hp} {x : V} {D W : Nat} {d : PyData} (s : Sm D W d) (h1 : D ≤ 60) (h2 : W ≤ 2 ^ 20) (hd : Rp K H x d) : Rok K H x d :=
  ⟨hd, s.ok, Nat.le_trans s.dp h1, Nat.le_trans s.wt h2⟩
/-- the whole dict of things -/
theorem ThAt.rok {K : PySem.W.Frag} {H : Hp} {d : Addr} {es : List (Int × PyData)} {kvs : List (Key × V)} (x : ThAt K H d es kvs) {n : Nat} (hk : es.map (·.1) = births n) (hn : n ≤ 100) : Rok K H (.ref d) (PyData.dict (es.map fun e => (PyData.int e.1, e.2))) := by
  obtain ⟨a, b, c⟩ := sm_kv (D := 8) (W := 4000) (es := es) fun e he => by
    have m : e.1 ∈ births n := by rw [← hk]; exact List.mem_map.mpr ⟨e, he, rfl⟩
    have := births_mem.mp m
    exact ⟨by omega, ⟨(x.th e he).ok, (x.th e he).dp, (x.th e he).wt⟩⟩
  have hl : es.length = n := by
    have e := congrArg List.length hk
    rw [List.length_map, births_len] at e
    exact e
  refine ⟨.inr ⟨d, kvs, es, rfl, x.at_, x.ks, x.vs, x.fl, rfl⟩, by simpa [okD] using a, ?_, ?_⟩
  · simp only [PyData.depth]
    omega
  · simp only [PyData.weight]
    refine Nat.le_trans c ?_
    rw [hl]
    exact Nat.le_trans (Nat.mul_le_mul_right _ hn) (by decide)
end Cm

/-! defs that may ask repr, called by name where nothing is under repr -/
namespace Cm
open PySem L2 PySem.Spec PyProof.Rows
structure ClG (P : Program) (w : World) (K : PySem.W.Frag) (mg : Str → Option Value) (base : Heap) (k : Nat) (x : Str) (sp : Sp) : Prop where
  ex : ∃ (f : Addr) (fd : FuncData) (ps : List Str), (∀ vs H Q E, sp vs H Q E → vs.length = ps.length) ∧ LawAt P w K mg base k f fd ps sp ∧ mg x = some (.ref f) ∧ PySem.W.keepIn K (.ref f) = true ∧ Binds K fd ps []
section
variable {P : Program} {w : World} {K : PySem.W.Frag} {mg : Str → Option Value} {base : Heap}
theorem clG_of {x : Str} {st : Stmt} {N ps : List Str} {k : Nat} {sp : Sp} (T : At K mg x st ps) (S : FnScope N ps (defScope st))
    (len : ∀ vs H Q E, sp vs H Q E → vs.length = ps.length)
    (hb : ∀ (f : Addr) (cdv : Value) (A : Around) (outer : List Env) (s : Shared) (H : Hp) (vs : List V) (Q : VK) (E : XK), (A.deeper (envOfC x (defScope st) s.heap.objs.size f cdv)).guards = some [] →
      Room k (A.deeper (envOfC x (defScope st) s.heap.objs.size f cdv)) → sp vs H Q E →
      ∃ t, PSs (cxOf CX0 P w K mg base N x (defScope st) f cdv A outer s H E).nox (defBody st) t ∧ t { nx := fun _ H' => Q .non H', rt := Q } (start N vs) H) :
    ClG P w K mg base (k + 1) x sp := by
  obtain ⟨f, fd, F, hm, b⟩ := T.ex
  exact ⟨f, fd, ps, len, lawAt_of F S len fun cdv A outer s H vs Q E hg => hb f cdv A outer s H vs Q E hg, hm, F.kp, b⟩
end
section
variable {X : Cx} {j k : Nat} {x : Str} {sp : Sp} {e : Expr} {es : List Expr} {t : TA} {p pos : Pos}
theorem pe_cG (c : ClG X.prog X.w X.K X.mg X.base k x sp) (hgd : X.A.guards = some []) (hr : Room j X.A) (hk : k ≤ j) (hg : Gl X x) (ha : PA X (e :: es) t)
    (hdb : (x == ("__debug__" : Str)) = false := by decide) (he : starEach (e :: es) X.env = (false, eval e X.env) :: starEach es X.env := by rfl)
    (hpl : (backTo pos (starEach es X.env)).any (·.1) = false := by rfl) : PE X (.Call (.Name x p) (e :: es) [] pos) (tCall sp [] E0 t) := by
  obtain ⟨f, fd, ps, len, F, hm, kp, b⟩ := c.ex
  refine ⟨fun pins s σ H Q I h => ?_⟩
  refine wpAny_Call_Name_kw (ld_glob I hg hm ?_ hdb)
  refine PySem.W.callWith_K (h₀ := X.base) I.ok.mod.kin kp (thn (ha.run pos pins s σ H _ I h) fun us s1 ⟨vs, H1, I1, r, q⟩ => ⟨I1.kIn, ?_⟩) he hpl
  have q' : sp vs H1 Q E0 := by
    have q0 : sp (vs ++ []) H1 Q E0 := q
    rwa [List.append_nil] at q0
  have hl : us.length = ps.length := by rw [← r.length]; exact len _ _ _ _ q'
  have hb := b s1 us I1.kIn (by rw [List.append_nil]; exact hl)
  rw [List.append_nil] at hb
  refine wpAny_call (codeAny_mono (F X.A X.stack s1 H1 ⟨us, []⟩ us vs Q E0 hgd (hr.mono hk) I1.env0 hb r q') fun r s' hq => ?_)
  cases r with
  | error e => exact pass0 pins σ H1 s1 e s' I1 hq
  | ok fl =>
    cases fl with
    | ret u => exact I1.after hq
    | next => exact False.elim hq
    | brk => exact False.elim hq
    | cont => exact False.elim hq
end
/-! ### a walk over a list or a tuple -/
def iSeq (K : PySem.W.Frag) (tl : TE) : TI := fun σ H R => tl σ H fun x H1 => ∃ a, x = .ref a ∧ ((∃ xs, SqL K H1 a xs) ∧ R (Itl K a) H1 ∨ (∃ xs, SqT K H1 a xs) ∧ R (Itt K a) H1)
theorem pi_seq {X : Cx} {tg l : Expr} {tl : TE} (hl : PE X l tl) : PI X tg l (iSeq X.K tl) := by
  refine ⟨fun pins s σ H R I h => ?_⟩
  refine thn (hl.run pins s σ H _ I h) fun v s1 ⟨x, H1, I1, r1, q1⟩ => ?_
  obtain ⟨a, rfl, q1⟩ := q1
  cases r1
  have fp : ∀ b ∈ [s1.heap.objs.size], b = s1.heap.objs.size := fun b hb => by simpa using hb
  rcases q1 with ⟨⟨xs, hq⟩, q⟩ | ⟨⟨xs, hq⟩, q⟩
  · obtain ⟨its, rv, p, hz⟩ := I1.list hq
    refine wpAny_pyIter_list p.isList ?_
    refine ⟨_, _, _, _, H1, rfl, I1.kept (t' := s1.toks) fun b o e => Heap.get?_push_of_some _ e, turn_list a _, ⟨_, Heap.get?_push_size _ rfl, rfl, rfl⟩, fun b hb => ?_, q⟩
    cases fp b hb
    exact I1.fpOk (Nat.le_refl _) (I1.hok.fresh (Nat.le_refl _))
  · obtain ⟨its, rv, p, hz⟩ := I1.tuple hq
    refine wpAny_pyIter_tuple (show s1.heap.IsTuple a its.toArray from p) ?_
    refine ⟨_, _, _, _, H1, rfl, I1.kept (t' := s1.toks) fun b o e => Heap.get?_push_of_some _ e, turn_tuple a _, ⟨_, Heap.get?_push_size _ rfl, rfl, rfl⟩, fun b hb => ?_, q⟩
    cases fp b hb
    exact I1.fpOk (Nat.le_refl _) (I1.hok.fresh (Nat.le_refl _))
theorem ks_tupA {X : Cx} {K : PySem.W.Frag} (h : X.K = K := by rfl) : SlR X (rSlA K) := by subst h; exact sl_tupA
theorem ne_same (x : V) : (!decide (x = x)) = false := by simp
theorem tyx_tup {K : PySem.W.Frag} {H : Hp} {a : Addr} {xs : List V} (h : SqT K H a xs) : TyX K H (.ref a) (.type "tuple") := by
  rcases h with (h | ⟨o, h⟩) | ⟨o, its, n, e, c, _⟩
  · exact .base (.tup h)
  · exact .fTuple h
  · exact .kTuple e c
theorem kit_tup {K : PySem.W.Frag} : PySem.W.kitOne K (.type "tuple") (.type "tuple") = some true := by rfl
end Cm

/-! a for over a list or a tuple, as one -/
namespace Cm
open PySem L2 PySem.Spec PyProof.Rows
theorem for_seq {K : PySem.W.Frag} {tl : TE} {g : TG} {tb : TS} {D : Ends} {σ : L2.St} {H Hb : Hp} {a : Addr} {xs : List V} (ht : ∀ Q : VK, Q (.ref a) H → tl σ H Q) (ha : SqL K Hb a xs ∨ SqT K Hb a xs)
    (Pv : Nat → L2.St → Hp → Prop) (h0 : Pv 0 σ H) (hG : ∀ i σ H', Pv i σ H' → Same Hb H')
    (hs : ∀ i x σ H1, i < xs.length → Pv i σ H1 → xs[i]? = some x → g x σ H1 fun σ2 H2 => tb { D with nx := Pv (i + 1), ct := Pv (i + 1), bk := D.nx } σ2 H2) (hd : ∀ σ H1, Pv xs.length σ H1 → D.nx σ H1) :
    tFor (iSeq K tl) g tb D σ H := by
  refine ht _ ⟨a, rfl, ?_⟩
  rcases ha with ha | ha
  · refine .inl ⟨⟨_, (hG _ _ _ h0).seq ha⟩, for_it (walk_list (xs := xs)) Pv h0 (fun i σ H' hi z => (hG i σ H' z).seq ha) (fun i x σ H1 H2 hi z y => ?_) hd⟩
    obtain ⟨rfl, e⟩ := y
    exact hs i x σ _ hi z e
  · refine .inr ⟨⟨_, sqt_same (hG _ _ _ h0) ha⟩, for_it (walk_tup (xs := xs)) Pv h0 (fun i σ H' hi z => sqt_same (hG i σ H' z) ha) (fun i x σ H1 H2 hi z y => ?_) hd⟩
    obtain ⟨rfl, e⟩ := y
    exact hs i x σ _ hi z e
end Cm

namespace K24
open PySem L2 Cm
def top (i : Nat) : Stmt := PySem.Challenge.pw_goonagain_k24_rows_cut_into_blocks.main.body.getD i (.Pass ⟨0, 0, 0, 0⟩)
structure Txt (mg : Str → Option Value) : Prop where
  abs : mg "abs" = none
  enumerate : mg "enumerate" = none
  int : mg "int" = none
  isinstance : mg "isinstance" = none
  len : mg "len" = none
  list : mg "list" = none
  range : mg "range" = none
  tuple : mg "tuple" = none
  zip : mg "zip" = none
section
variable {P : Program} {w : World} {K : PySem.W.Frag} {mg : Str → Option Value} {base : Heap}
-- mix
abbrev s_l_mix : Stmt := top 5
abbrev N_l_mix : List Str := ["_law_number", "_law_turn", "_law_once", "_law_twice"]
theorem sc_l_mix : FnScope N_l_mix ["_law_number", "_law_turn"] (defScope s_l_mix) := ⟨rfl, rfl, rfl, by decide +kernel, rfl, by decide +kernel, by decide +kernel⟩
theorem ok_mix (T : Txt mg) (D : At K mg "_law_mix" s_l_mix ["_law_number", "_law_turn"]) : Cl P w K mg base 1 "_law_mix" spMix := by
  refine cl_of D sc_l_mix (fun vs H Q E h => ?_) fun f cdv A outer s H vs Q E hr h => ?_
  · obtain ⟨a, b, rfl, _⟩ := h
    rfl
  · obtain ⟨a, b, rfl, k⟩ := h
    refine ⟨_, (pss_cons (ps_set (i := 2) sc_l_mix.nd rfl (Or.inl rfl) (pe_op op_mod (pe_callTy call_int1 (by rfl) T.int (by decide +kernel) (pa_cons (pe_op op_add (pe_op op_add (pe_op op_mul (pv 0) pe_int) (pe_op op_mul (pv 1) pe_int)) pe_int) pa_nil)) pe_int))
      (pss_cons (ps_set (i := 3) sc_l_mix.nd rfl (Or.inl rfl) (pe_op op_mod (pe_callTy call_int1 (by rfl) T.int (by decide +kernel) (pa_cons (pe_op op_add (pe_op op_add (pe_op op_mul (pv 2) (pv 2)) (pe_op op_mul (pe_op op_fdiv (pv 2) pe_int) pe_int)) (pe_op op_mul (pv 1) pe_int)) pa_nil)) pe_int))
      (pss_one (ps_ret (pe_op op_fdiv (pe_op op_mod (pe_callTy call_int1 (by rfl) T.int (by decide +kernel) (pa_cons (pe_op op_add (pe_op op_fdiv (pe_op op_mul (pv 3) (pv 3)) pe_int) (pv 2)) pa_nil)) pe_int) pe_int))))), ?_⟩
    refine ⟨_, rfl, _, _, rfl, rfl, .inr (by decide), ?_⟩
    refine ⟨_, rfl, _, _, rfl, rfl, .inr (by decide), ?_⟩
    refine ⟨_, _, rfl, rfl, _, _, rfl, rfl, .inl ⟨_, rfl, _, _, rfl, rfl, (by show (0 : Int) < _; decide), ?_⟩⟩
    generalize hx : (a * 48271 + b * 16807 + 11) % 2147483647 = x
    have x0 : 0 ≤ x := by omega
    have x1 : x < 2147483647 := by omega
    clear hx
    refine ⟨_, rfl, _, rfl, _, _, rfl, rfl, .inl ⟨by omega, by omega⟩, ?_⟩
    refine ⟨_, rfl, _, _, rfl, rfl, ⟨by decide, by decide⟩, _, _, rfl, rfl, .inr (by decide), ?_⟩
    refine ⟨_, _, rfl, rfl, _, rfl, _, _, rfl, rfl, .inr (by decide), _, _, rfl, rfl, .inl ⟨_, rfl, _, _, rfl, rfl, (by show (0 : Int) < _; decide), ?_⟩⟩
    generalize hy : (x * x + x / 127 * 40692 + b * 69621) % 2147483399 = y
    have y0 : 0 ≤ y := by omega
    have y1 : y < 2147483399 := by omega
    clear hy
    refine ⟨_, rfl, _, rfl, _, _, rfl, rfl, .inl ⟨by omega, by omega⟩, _, _, rfl, rfl, ⟨by decide, by decide⟩, ?_⟩
    refine ⟨_, rfl, _, _, rfl, rfl, .inl ⟨_, rfl, _, _, rfl, rfl, (by show (0 : Int) < _; decide), _, _, rfl, rfl, ⟨by decide, by decide⟩, ?_⟩⟩
    exact k _
-- hand
abbrev s_l_hand : Stmt := top 6
abbrev N_l_hand : List Str := ["_law_script", "_law_total", "_law_k", "_law_cell"]
theorem sc_l_hand : FnScope N_l_hand ["_law_script"] (defScope s_l_hand) := ⟨rfl, rfl, rfl, by decide +kernel, rfl, by decide +kernel, by decide +kernel⟩
theorem ok_hand (T : Txt mg) (D : At K mg "_law_hand" s_l_hand ["_law_script"]) : Cl P w K mg base 1 "_law_hand" (spHand K) := by
  refine cl_of D sc_l_hand (fun vs H Q E h => ?_) fun f cdv A outer s H vs Q E hr h => ?_
  · obtain ⟨a, ns, rfl, _⟩ := h
    rfl
  · obtain ⟨a, ns, rfl, hS, hlen, k⟩ := h
    refine ⟨_, (pss_cons (ps_set (i := 1) sc_l_hand.nd rfl (Or.inl rfl) pe_int)
      (pss_cons (ps_for PassesOwn.never rfl (pi_enum (by rfl) T.enumerate (pa_cons (pv 0) pa_nil)) (pg_tup (by rfl) (pgs_cons (pg_name (i := 2) sc_l_hand.nd rfl (Or.inl rfl)) (pgs_cons (pg_name (i := 3) sc_l_hand.nd rfl (Or.inl rfl)) pgs_nil)))
        (pss_one (ps_set (i := 1) sc_l_hand.nd rfl (Or.inl rfl) (pe_op op_mod (pe_callTy call_int1 (by rfl) T.int (by decide +kernel) (pa_cons (pe_op op_add (pe_op op_mul (pv 1) pe_int) (pe_op op_mul (pe_callTy call_int1 (by rfl) T.int (by decide +kernel) (pa_cons (pv 3) pa_nil)) (pe_op op_add (pv 2) pe_int))) pa_nil)) pe_int))))
      (pss_one (ps_ret (pe_lst (pa_cons (pe_lc (own := [("_law_cell", 3)]) rfl sc_l_hand.nd (pi_list (pv 0)) (blkOk_by (N := N_l_hand) (sc := defScope s_l_hand) (by decide +kernel))
      (fun _ _ _ _ _ => (pg_name (i := 3) sc_l_hand.nd rfl (Or.inl rfl)))
      (fun _ _ _ _ _ => pts_nil)
      (fun _ _ _ _ _ => (pe_callB call_abs (by rfl) T.abs (by decide +kernel) (pa_cons (pe_callTy call_int1 (by rfl) T.int (by decide +kernel) (pa_cons (pv 3) pa_nil)) pa_nil)))) (pa_cons pe_int (pa_cons pe_int (pa_cons (pv 1) pa_nil))))))))), ?_⟩
    refine ⟨_, rfl, a, _, rfl, hS, ?_⟩
    refine for_it (walk_enum (xs := ns.map V.int)) (fun i σ H' => ∃ (t : Int) (v2 v3 : Option V), σ = [some (.ref a), some (.int t), v2, v3] ∧ Same H H') ⟨0, none, none, rfl, Same.refl H⟩ (fun i σ H' _ z => ?_) ?_ ?_
    · obtain ⟨t, v2, v3, rfl, s1⟩ := z
      exact s1.seq hS
    · rintro i x σ H1 H2 hi ⟨t, v2, v3, rfl, s1⟩ ⟨T1, x1, x2, rfl, hT, rfl, e1, e2⟩
      cases e1
      obtain ⟨n, en, rfl⟩ := map_at e2
      refine ⟨T1, _, rfl, .inl (.inl upd_same), rfl, _, _, rfl, _, _, rfl, rfl, ?_⟩
      refine ⟨_, rfl, _, _, rfl, rfl, .inr (by decide), _, rfl, .inl ⟨_, rfl, ?_⟩⟩
      refine ⟨_, rfl, _, _, rfl, rfl, _, _, rfl, rfl, .inr ⟨?_, ?_⟩, ?_⟩
      · rw [List.length_map] at hi
        omega
      · rw [List.length_map] at hi
        omega
      refine ⟨_, _, rfl, rfl, .inl ⟨_, rfl, _, _, rfl, rfl, (by show (0 : Int) < _; decide), ?_⟩⟩
      exact ⟨_, _, _, rfl, s1.trans (same_new hT)⟩
    · rintro σ H1 ⟨t, v2, v3, rfl, s1⟩
      refine ⟨_, rfl, a, rfl, ⟨_, s1.seq hS⟩, fun D hD => ?_⟩
      refine lc_it (walk_list (xs := ns.map V.int)) (fun i H' => ∃ acc : List Int, Same H1 H' ∧ H' D = some (.lst (acc.map V.int)) ∧ acc.length = i) ⟨[], same_new hD, upd_same, rfl⟩ (fun i H' _ z => ?_) ?_ ?_
      · obtain ⟨acc, s2, _⟩ := z
        exact (s1.trans s2).seq hS
      · rintro i x H2 H3 hi ⟨acc, s2, hacc, hl⟩ ⟨rfl, e2⟩
        obtain ⟨n, en, rfl⟩ := map_at e2
        rw [List.length_map] at hi
        refine ⟨rfl, ?_⟩
        refine ⟨_, rfl, .inl ⟨_, rfl, _, rfl, _, hacc, ?_, ?_⟩⟩
        · rw [List.length_map]
          exact Nat.lt_of_lt_of_le (show acc.length < 63 by omega) (by decide)
        · refine ⟨acc ++ [if n < 0 then -n else n], fun b o e => ?_, ?_, ?_⟩
          · have hb : b ≠ D := ne_of_none e hD
            rw [upd_ne hb]
            exact s2 b o e
          · rw [upd_same, List.map_append]
            rfl
          · rw [List.length_append, hl]
            rfl
      · rintro H2 ⟨acc, s2, hacc, hl⟩
        refine ⟨_, rfl, by show 4 ≤ sizeLine; decide, fun p hp => ?_⟩
        rw [List.length_map] at hl
        have npD : D ≠ p := ne_of_none hacc hp
        refine k p D _ ((s1.trans s2).trans (same_new hp)) ((s1.trans s2).free hp) (s1.free hD) ⟨acc, _, _, _, upd_same, ?_, npD, Int.le_refl 0, by omega⟩
        rw [upd_ne npD]
        exact hacc
end
section
variable {P : Program} {w : World} {K : PySem.W.Frag} {mg : Str → Option Value} {base : Heap}
abbrev s_l_draw : Stmt := top 7
abbrev N_l_draw : List Str := ["_law_hand_here", "_law_many", "_law_cell", "_law_rest"]
theorem sc_l_draw : FnScope N_l_draw ["_law_hand_here", "_law_many"] (defScope s_l_draw) := ⟨rfl, rfl, rfl, by decide +kernel, rfl, by decide +kernel, by decide +kernel⟩
theorem ok_draw (T : Txt mg) (c_l_mix : Cl P w K mg base 1 "_law_mix" spMix) (D : At K mg "_law_draw" s_l_draw ["_law_hand_here", "_law_many"]) : Cl P w K mg base 2 "_law_draw" spDraw := by
  refine cl_of D sc_l_draw (fun vs H Q E h => ?_) fun f cdv A outer s H vs Q E hr h => ?_
  · obtain ⟨h, c, m, rfl, _⟩ := h
    rfl
  · obtain ⟨h, c, m, rfl, ⟨cells, i, b, t, e1, e2, nch, hi, hlen⟩, hm0, hm1, k⟩ := h
    refine ⟨_, (pss_mid (ps_if (PW.pt (pw_and (pt_cmpR op_eq (pe_ix ix_list (pv 0) pe_int (fun _ _ => rfl)) pe_int (nomark _)) (pw_and1 (pt_cmpR op_lt (pe_ix ix_list (pv 0) pe_int (fun _ _ => rfl)) (pe_callB call_len_seq (by rfl) T.len (by decide +kernel) (pa_cons (pe_ix ix_list (pv 0) pe_int (fun _ _ => rfl)) pa_nil)) (nomark _)))))
        (pss_cons (ps_set (i := 2) sc_l_draw.nd rfl (Or.inl rfl) (pe_ix ix_list (pe_ix ix_list (pv 0) pe_int (fun _ _ => rfl)) (pe_ix ix_list (pv 0) pe_int (fun _ _ => rfl)) (fun _ _ => rfl)))
        (pss_cons (ps_asg (pe_op op_add (pe_ix ix_list (pv 0) pe_int (fun _ _ => rfl)) pe_int) (pg_sub (pv 0) pe_int set_list))
        (pss_cons (ps_if (pt_cmpR op_lt (pv 2) (pe_op op_pow pe_int pe_int) (nomark _))
          (pss_one (ps_ret (pe_op op_mod (pe_callTy call_int1 (by rfl) T.int (by decide +kernel) (pa_cons (pe_c c_l_mix hr (by decide) (by rfl) (pa_cons (pe_op op_mod (pe_callTy call_int1 (by rfl) T.int (by decide +kernel) (pa_cons (pv 2) pa_nil)) pe_int) (pa_cons (pe_ix ix_list (pv 0) pe_int (fun _ _ => rfl)) pa_nil))) pa_nil)) (pv 1))))
          pss_nil)
        (pss_one (ps_asg (pv 2) (pg_sub (pv 0) pe_int set_list))))))
        pss_nil)
      (pss_cons (ps_if (pt_cmpR op_gt (pe_ix ix_list (pv 0) pe_int (fun _ _ => rfl)) pe_int (nomark _))
        (pss_cons (ps_set (i := 3) sc_l_draw.nd rfl (Or.inl rfl) (pe_ix ix_list (pv 0) pe_int (fun _ _ => rfl)))
        (pss_cons (ps_asg (pe_op op_fdivW (pv 3) (pv 1)) (pg_sub (pv 0) pe_int set_list))
        (pss_one (ps_ret (pe_op op_mod (pe_callTy call_int1 (by rfl) T.int (by decide +kernel) (pa_cons (pv 3) pa_nil)) (pv 1))))))
        pss_nil)
      (pss_cons (ps_asg (pe_op op_mod (pe_callTy call_int1 (by rfl) T.int (by decide +kernel) (pa_cons (pe_op op_add (pe_ix ix_list (pv 0) pe_int (fun _ _ => rfl)) pe_int) pa_nil)) pe_int) (pg_sub (pv 0) pe_int set_list))
      (pss_one (ps_ret (pe_op op_mod (pe_callTy call_int1 (by rfl) T.int (by decide +kernel) (pa_cons (pe_c c_l_mix hr (by decide) (by rfl) (pa_cons (pe_ix ix_list (pv 0) pe_int (fun _ _ => rfl)) (pa_cons (pe_ix ix_list (pv 0) pe_int (fun _ _ => rfl)) pa_nil))) pa_nil)) (pv 1))))))), ?_⟩
    have big : CDivW b m := wide_div (b := 100) hm0 (by omega) (by decide) (by decide)
    have kh0 : ∀ {ys : List V}, Kh h H (upd H h (.lst ys)) := Kp.put (fun a ha => by rw [ha]; exact ⟨_, e1⟩) rfl
    refine ⟨fun σ' H' => ∃ (i b t : Int) (v2 v3 : Option V), σ' = [some (.ref h), some (.int m), v2, v3] ∧ Kh h H H' ∧ H' h = some (.lst [.ref c, .int i, .int b, .int t]) ∧ H' c = some (.lst (cells.map V.int)) ∧ 0 ≤ i, ?_, ?_⟩
    · refine ⟨_, rfl, _, _, _, _, rfl, rfl, .inl (.inl e1), rfl, rfl, _, rfl, ?_⟩
      refine ite2 (fun _ => ?_) (fun _ => ?_)
      · refine ⟨_, rfl, _, _, _, _, rfl, rfl, .inl (.inl e1), rfl, _, rfl, _, _, _, _, rfl, rfl, .inl (.inl e1), rfl, c, _, rfl, .inl (.inl (.inl e2)), _, _, rfl, rfl, _, rfl, ?_⟩
        refine ite2 (fun hlt => ?_) (fun _ => ?_)
        · have hlt' : i < (cells.length : Int) := by
            have := of_decide_eq_true hlt
            rw [List.length_map] at this
            exact this
          obtain ⟨j, rfl⟩ : ∃ j : Nat, i = (j : Int) := ⟨i.toNat, by omega⟩
          have hj : j < cells.length := by omega
          have hat : atI (cells.map V.int) (j : Int) = some (.int cells[j]) := atI_nat (by rw [List.getElem?_map, List.getElem?_eq_getElem hj]; rfl)
          refine ⟨_, rfl, _, _, _, _, rfl, rfl, .inl (.inl e1), rfl, _, rfl, _, _, _, _, rfl, rfl, .inl (.inl e1), rfl, c, _, _, _, rfl, rfl, .inl (.inl e2), hat, ?_⟩
          refine ⟨_, rfl, _, _, _, _, rfl, rfl, .inl (.inl e1), rfl, _, _, rfl, rfl, _, rfl, h, _, _, 1, rfl, rfl, e1, rfl, ?_⟩
          have e2' : upd H h (.lst [.ref c, .int ((j : Int) + 1), .int b, .int t]) c = some (.lst (cells.map V.int)) := by rw [upd_ne nch]; exact e2
          refine ⟨_, rfl, _, _, rfl, rfl, ⟨by decide, by decide, by decide⟩, _, _, rfl, rfl, _, rfl, ?_⟩
          refine ite2 (fun _ => ?_) (fun _ => ?_)
          · refine ⟨_, rfl, .inl ⟨_, rfl, _, _, rfl, rfl, (by show (0 : Int) < _; decide), _, rfl, _, _, _, _, rfl, rfl, .inl (.inl upd_same), rfl, ?_⟩⟩
            refine ⟨_, _, rfl, fun n => .inl ⟨_, rfl, _, rfl, _, _, rfl, rfl, hm0, ?_⟩⟩
            exact k _ _ (Int.emod_nonneg _ (by omega)) (Int.emod_lt_of_pos _ hm0) kh0 ⟨cells, _, _, _, upd_same, e2', nch, by omega, hlen⟩
          · refine ⟨_, rfl, _, rfl, h, _, _, 2, rfl, rfl, upd_same, rfl, ?_⟩
            rw [upd_upd]
            exact ⟨_, _, _, _, _, rfl, kh0, upd_same, by rw [upd_ne nch]; exact e2, by omega⟩
        · exact ⟨i, b, t, _, _, rfl, Kp.refl (fun a ha => by rw [ha]; exact ⟨_, e1⟩), e1, e2, hi⟩
      · exact ⟨i, b, t, _, _, rfl, Kp.refl (fun a ha => by rw [ha]; exact ⟨_, e1⟩), e1, e2, hi⟩
    · rintro σ' H' ⟨i, b, t, v2, v3, rfl, kh, e1, e2, hi⟩
      have kh1 : ∀ {ys : List V}, Kh h H (upd H' h (.lst ys)) := kh.trans (Kp.put (fun a ha => by rw [ha]; exact ⟨_, e1⟩) rfl)
      refine ⟨_, rfl, _, _, _, _, rfl, rfl, .inl (.inl e1), rfl, _, _, rfl, rfl, _, rfl, ?_⟩
      refine ite2 (fun _ => ?_) (fun _ => ?_)
      · refine ⟨_, rfl, _, _, _, _, rfl, rfl, .inl (.inl e1), rfl, _, rfl, _, rfl, _, _, rfl, rfl, big, _, rfl, h, _, _, 2, rfl, rfl, e1, rfl, ?_⟩
        refine ⟨_, rfl, .inl ⟨_, rfl, _, rfl, _, _, rfl, rfl, hm0, ?_⟩⟩
        exact k _ _ (Int.emod_nonneg _ (by omega)) (Int.emod_lt_of_pos _ hm0) kh1 ⟨cells, _, _, _, upd_same, by rw [upd_ne nch]; exact e2, nch, hi, hlen⟩
      · refine ⟨_, rfl, _, _, _, _, rfl, rfl, .inl (.inl e1), rfl, _, _, rfl, rfl, .inl ⟨_, rfl, _, _, rfl, rfl, (by show (0 : Int) < _; decide), _, rfl, h, _, _, 3, rfl, rfl, e1, rfl, ?_⟩⟩
        refine ⟨_, rfl, _, _, _, _, rfl, rfl, .inl (.inl upd_same), rfl, _, rfl, _, _, _, _, rfl, rfl, .inl (.inl upd_same), rfl, ?_⟩
        refine ⟨_, _, rfl, fun n => .inl ⟨_, rfl, _, rfl, _, _, rfl, rfl, hm0, ?_⟩⟩
        exact k _ _ (Int.emod_nonneg _ (by omega)) (Int.emod_lt_of_pos _ hm0) kh1 ⟨cells, _, _, _, upd_same, by rw [upd_ne nch]; exact e2, nch, hi, hlen⟩
end
section
variable {P : Program} {w : World} {K : PySem.W.Frag} {mg : Str → Option Value} {base : Heap}
abbrev s_l_pick : Stmt := top 8
abbrev N_l_pick : List Str := ["_law_hand_here", "_law_things"]
theorem sc_l_pick : FnScope N_l_pick ["_law_hand_here", "_law_things"] (defScope s_l_pick) := ⟨rfl, rfl, rfl, by decide +kernel, rfl, by decide +kernel, by decide +kernel⟩
theorem ok_pick (T : Txt mg) (c_l_draw : Cl P w K mg base 2 "_law_draw" spDraw) (D : At K mg "_law_pick" s_l_pick ["_law_hand_here", "_law_things"]) : Cl P w K mg base 3 "_law_pick" (spPick K) := by
  refine cl_of D sc_l_pick (fun vs H Q E h => ?_) fun f cdv A outer s H vs Q E hr h => ?_
  · obtain ⟨h, c, a, xs, rfl, _⟩ := h
    rfl
  · obtain ⟨h, c, a, xs, rfl, hh, hx, hne, hlen, k⟩ := h
    have hpos : 0 < xs.length := List.length_pos_iff.mpr hne
    refine ⟨_, (pss_one (ps_ret (pe_ix ix_seq (pv 1) (pe_c c_l_draw hr (by decide) (by rfl) (pa_cons (pv 0) (pa_cons (pe_callB call_len_seq (by rfl) T.len (by decide +kernel) (pa_cons (pv 1) pa_nil)) pa_nil))) (fun _ _ => rfl)))), ?_⟩
    refine ⟨_, rfl, _, rfl, _, rfl, a, xs, rfl, ?_, h, c, _, rfl, hh, by omega, Int.lt_of_le_of_lt (show (xs.length : Int) ≤ 1000 by omega) (by decide), fun n H1 h0 h1 kh hh1 => ?_⟩
    · rcases hx with hx | hx
      · exact .inl hx.1
      · exact .inr hx
    · obtain ⟨j, rfl⟩ : ∃ j : Nat, n = (j : Int) := ⟨n.toNat, by omega⟩
      have hj : j < xs.length := by omega
      have hat : atI xs (j : Int) = some xs[j] := atI_nat (List.getElem?_eq_getElem hj)
      rcases hx with ⟨hx, hn⟩ | hx
      · refine .inl ⟨a, xs, _, _, rfl, rfl, ?_, hat, k _ _ (List.getElem_mem hj) kh hh1⟩
        rcases hx with (q | ⟨o, q⟩) | q
        · exact .inl (.inl (kh.st _ _ hn q))
        · exact .inl (.inr ⟨o, kh.st _ _ hn q⟩)
        · exact .inr q
      · exact .inr (.inl ⟨a, xs, _, _, rfl, rfl, kh.tup hx, hat, k _ _ (List.getElem_mem hj) kh hh1⟩)
end
end K24

/-! rows cut into blocks: the mathematics -/
namespace K24
abbrev Stt := List (List Int) × List Int
/-- the blocks that are closed, and the waits of the open one -/
def fin (s : Stt) : List (List Int) := if s.2 = [] then s.1 else s.1 ++ [s.2]
def stp (c : Int → Bool) (s : Stt) (b : Int) : Stt :=
  if c b = true then (fin s ++ [[b]], []) else if s.2.length + 1 = 4 then (s.1 ++ [s.2 ++ [b]], []) else (s.1, s.2 ++ [b])
def run (c : Int → Bool) (s : Stt) (r : List Int) : Stt := r.foldl (stp c) s
def blk (c : Int → Bool) (fs : List Int) : List (List Int) := fin (run c ([], []) fs)
theorem run_snoc (c : Int → Bool) (s : Stt) (r : List Int) (b : Int) : run c s (r ++ [b]) = stp c (run c s r) b := by
  unfold run
  rw [List.foldl_append]
  rfl
theorem run_app (c : Int → Bool) (s : Stt) (r q : List Int) : run c s (r ++ q) = run c (run c s r) q := by
  unfold run
  rw [List.foldl_append]
theorem take_snoc {fs : List Int} {i : Nat} {b : Int} (h : fs[i]? = some b) : fs.take (i + 1) = fs.take i ++ [b] := by
  rw [List.take_add_one, h]
  rfl
/-- what holds of it all along -/
def Ok (c : Int → Bool) (s : Stt) : Prop := s.2.length ≤ 3 ∧ (∀ b ∈ s.2, c b = false) ∧ ∀ x ∈ s.1, x ≠ [] ∧ x.length ≤ 4
theorem stp_ok {c : Int → Bool} {s : Stt} (h : Ok c s) (b : Int) : Ok c (stp c s b) := by
  obtain ⟨h1, h2, h3⟩ := h
  unfold stp
  by_cases q : c b = true
  · rw [if_pos q]
    refine ⟨by simp, by simp, fun x hx => ?_⟩
    rcases List.mem_append.mp hx with hx | hx
    · unfold fin at hx
      split at hx
      · exact h3 x hx
      · rename_i z
        rcases List.mem_append.mp hx with hx | hx
        · exact h3 x hx
        · cases List.mem_singleton.mp hx
          exact ⟨z, by omega⟩
    · cases List.mem_singleton.mp hx
      simp
  · rw [if_neg q]
    by_cases z : s.2.length + 1 = 4
    · rw [if_pos z]
      refine ⟨by simp, by simp, fun x hx => ?_⟩
      rcases List.mem_append.mp hx with hx | hx
      · exact h3 x hx
      · cases List.mem_singleton.mp hx
        simp
        omega
    · rw [if_neg z]
      refine ⟨by simp; omega, fun x hx => ?_, h3⟩
      rcases List.mem_append.mp hx with hx | hx
      · exact h2 x hx
      · cases List.mem_singleton.mp hx
        simpa using q
theorem run_ok {c : Int → Bool} : ∀ (r : List Int) {s : Stt}, Ok c s → Ok c (run c s r)
  | [], _, h => h
  | b :: r, _, h => run_ok r (stp_ok h b)
theorem ok0 (c : Int → Bool) : Ok c ([], []) := ⟨by simp, by simp, by simp⟩
theorem fin_flat (s : Stt) : (fin s).flatten = s.1.flatten ++ s.2 := by
  unfold fin
  split
  · rename_i h
    rw [h, List.append_nil]
  · simp
theorem stp_flat (c : Int → Bool) (s : Stt) (b : Int) : (fin (stp c s b)).flatten = (fin s).flatten ++ [b] := by
  unfold stp
  by_cases q : c b = true
  · rw [if_pos q, fin_flat]
    simp
  · rw [if_neg q]
    by_cases z : s.2.length + 1 = 4
    · rw [if_pos z, fin_flat, fin_flat]
      simp
    · rw [if_neg z, fin_flat, fin_flat]
      simp
theorem run_flat (c : Int → Bool) : ∀ (r : List Int) (s : Stt), (fin (run c s r)).flatten = (fin s).flatten ++ r
  | [], s => by simp [run]
  | b :: r, s => by
    show (fin (run c (stp c s b) r)).flatten = _
    rw [run_flat c r, stp_flat]
    simp
theorem blk_flat (c : Int → Bool) (fs : List Int) : (blk c fs).flatten = fs := by
  unfold blk
  rw [run_flat]
  simp [fin]
theorem fin_ne {c : Int → Bool} {s : Stt} (h : Ok c s) : ∀ x ∈ fin s, x ≠ [] ∧ x.length ≤ 4 := by
  intro x hx
  unfold fin at hx
  split at hx
  · exact h.2.2 x hx
  · rename_i z
    rcases List.mem_append.mp hx with hx | hx
    · exact h.2.2 x hx
    · cases List.mem_singleton.mp hx
      exact ⟨z, Nat.le_succ_of_le h.1⟩
/-- the law's own room -/
def room (s : Stt) : Nat := if s.2 = [] then 0 else 4 - s.2.length
theorem fin_cut {c : Int → Bool} {s : Stt} {b : Int} (q : c b = true) : fin (stp c s b) = fin s ++ [[b]] ∧ room (stp c s b) = 0 := by
  unfold stp room
  rw [if_pos q]
  simp [fin]
theorem fin_new {c : Int → Bool} {s : Stt} {b : Int} (q : c b = false) (h : Ok c s) (z : room s = 0) : fin (stp c s b) = fin s ++ [[b]] ∧ room (stp c s b) = 3 := by
  have e : s.2 = [] := by
    unfold room at z
    split at z
    · assumption
    · have := h.1
      omega
  unfold stp room
  rw [if_neg (by simp [q]), e]
  simp [fin, e]
theorem fin_old {c : Int → Bool} {s : Stt} {b : Int} (q : c b = false) (h : Ok c s) (z : room s ≠ 0) : fin s = s.1 ++ [s.2] ∧ fin (stp c s b) = s.1 ++ [s.2 ++ [b]] ∧ room (stp c s b) + 1 = room s := by
  have e : s.2 ≠ [] := fun e => z (by unfold room; rw [if_pos e])
  have h1 := h.1
  unfold stp room
  rw [if_neg (by simp [q]), if_neg e]
  by_cases w : s.2.length + 1 = 4
  · rw [if_pos w]
    refine ⟨by simp [fin, e], by simp [fin], ?_⟩
    simp
    omega
  · rw [if_neg w]
    refine ⟨by simp [fin, e], by simp [fin], ?_⟩
    simp
    omega
/-- what is behind a beginning leaves its closed blocks as they are -/
theorem grow {c : Int → Bool} : ∀ (r : List Int) (s : Stt), Ok c s → ∃ y, fin (run c s r) = s.1 ++ y ∧ (s.2 ≠ [] → ∃ x z, y = (s.2 ++ x) :: z)
  | [], s, h => by
    show ∃ y, fin s = _ ∧ _
    by_cases e : s.2 = []
    · exact ⟨[], by simp [fin, e], fun n => absurd e n⟩
    · exact ⟨[s.2], by simp [fin, e], fun _ => ⟨[], [], by simp⟩⟩
  | b :: r, s, h => by
    obtain ⟨y, e1, e2⟩ := grow r (stp c s b) (stp_ok h b)
    show ∃ y, fin (run c (stp c s b) r) = _ ∧ _
    rw [e1]
    by_cases q : c b = true
    · have es : (stp c s b).1 = fin s ++ [[b]] := by unfold stp; rw [if_pos q]
      rw [es]
      by_cases e : s.2 = []
      · exact ⟨[b] :: y, by simp [fin, e], fun n => absurd e n⟩
      · exact ⟨s.2 :: [b] :: y, by simp [fin, e], fun _ => ⟨[], [b] :: y, by simp⟩⟩
    · by_cases w : s.2.length + 1 = 4
      · have es : (stp c s b).1 = s.1 ++ [s.2 ++ [b]] := by unfold stp; rw [if_neg q, if_pos w]
        rw [es]
        exact ⟨(s.2 ++ [b]) :: y, by simp, fun _ => ⟨[b], y, rfl⟩⟩
      · have es : stp c s b = (s.1, s.2 ++ [b]) := by unfold stp; rw [if_neg q, if_neg w]
        rw [es] at e2 ⊢
        obtain ⟨x, z, e3⟩ := e2 (by simp)
        exact ⟨y, rfl, fun _ => ⟨b :: x, z, by rw [e3]; simp⟩⟩
theorem blk_ne (c : Int → Bool) (fs : List Int) : ∀ x ∈ blk c fs, x ≠ [] ∧ x.length ≤ 4 := fin_ne (run_ok fs (ok0 c))
theorem sum_pos {α : Type} : ∀ {ys : List (List α)} {k : Nat}, (∀ x ∈ ys, x ≠ []) → 0 < k → ys ≠ [] → 0 < (ys.take k).flatten.length
  | [], _, _, _, n => absurd rfl n
  | y :: ys, 0, _, h, _ => absurd h (Nat.lt_irrefl _)
  | y :: ys, k + 1, h, _, _ => by
    have := List.length_pos_iff.mpr (h y List.mem_cons_self)
    rw [List.take_succ_cons, List.flatten_cons, List.length_append]
    omega
theorem same_blocks {c : Int → Bool} {p r1 r2 : List Int} {i : Nat} {a b : List Int} (ha : (blk c (p ++ r1))[i]? = some a) (hb : (blk c (p ++ r2))[i]? = some b)
    (hl : ((blk c (p ++ r1)).take (i + 1)).flatten.length ≤ p.length) (hc : a.length = 4 ∨ ∃ x r, a = x :: r ∧ c x = true) : a = b := by
  have hne := blk_ne c (p ++ r1)
  have ok := run_ok p (ok0 c)
  have hp := blk_flat c p
  unfold blk at ha hb hl hne
  rw [run_app] at ha hb hl hne
  unfold blk at hp
  generalize hs : run c ([], []) p = s at ha hb hl hne ok hp
  obtain ⟨y1, e1, f1⟩ := grow r1 s ok
  obtain ⟨y2, e2, _⟩ := grow r2 s ok
  rw [e1] at ha hl hne
  rw [e2] at hb
  have lp : p.length = s.1.flatten.length + s.2.length := by rw [← hp, fin_flat, List.length_append]
  by_cases q : i < s.1.length
  · rw [List.getElem?_append_left q] at ha hb
    rw [ha] at hb
    exact Option.some.inj hb
  · exfalso
    have ha2 : y1[i - s.1.length]? = some a := by
      rw [List.getElem?_append_right (by omega)] at ha
      exact ha
    have et : (s.1 ++ y1).take (i + 1) = s.1 ++ y1.take (i + 1 - s.1.length) := by
      rw [List.take_append, List.take_of_length_le (by omega)]
    rw [et, List.flatten_append, List.length_append] at hl
    have yne : ∀ x ∈ y1, x ≠ [] := fun x hx => (hne x (List.mem_append_right _ hx)).1
    have y0 : y1 ≠ [] := fun e => by rw [e] at ha2; simp at ha2
    by_cases w : s.2 = []
    · have := sum_pos yne (show 0 < i + 1 - s.1.length by omega) y0
      rw [w, List.length_nil] at lp
      omega
    · obtain ⟨x, z, ey⟩ := f1 w
      rw [ey] at hl ha2 yne
      obtain ⟨k, ek⟩ : ∃ k, i + 1 - s.1.length = k + 1 := ⟨i - s.1.length, by omega⟩
      rw [ek, List.take_succ_cons, List.flatten_cons, List.length_append, List.length_append] at hl
      cases k with
      | zero =>
        have ei : i - s.1.length = 0 := by omega
        rw [ei] at ha2
        simp only [List.getElem?_cons_zero, Option.some.injEq] at ha2
        have ex : x = [] := List.length_eq_zero_iff.mp (by omega)
        rw [ex, List.append_nil] at ha2
        subst ha2
        have := ok.1
        rcases hc with h | ⟨x, r, e, h⟩
        · omega
        · have := ok.2.1 x (by rw [e]; exact List.mem_cons_self)
          rw [h] at this
          cases this
      | succ k =>
        have z0 : z ≠ [] := fun e => by
          rw [e] at ha2
          have : i - s.1.length = k + 1 := by omega
          rw [this] at ha2
          simp at ha2
        have := sum_pos (ys := z) (k := k + 1) (fun x hx => yne x (List.mem_cons_of_mem _ hx)) (show 0 < k + 1 by omega) z0
        omega
end K24

namespace K24
open PySem L2 Cm
def five : List Str := ["mark", "pass", "wind", "way", "wait"]
def cutWs : List V := [.str "mark", .str "pass", .str "wind", .str "way"]
structure Top (K : PySem.W.Frag) (mg : Str → Option Value) : Prop where
  cw : ∃ ca : Addr, mg "CUT_WORDS" = some (.ref ca) ∧ ∀ H, SqT K H ca cutWs
  mb : ∃ t, mg "MOST_IN_BLOCK" = some (.int 4 t)
/-- the dict of things: each birth's word -/
structure Wd (K : PySem.W.Frag) (H : Hp) (d : Addr) (wd : Int → Option Str) (n : Nat) : Prop where
  ex : ∃ kvs : List (Key × V), H d = some (.dK kvs) ∧ kvs.length ≤ n ∧ ∀ b w, wd b = some w → ∃ (t : Addr) (rest : List V), valV kvs (Sum.inl b) = some (.ref t) ∧ SqT K H t (.str w :: rest)
  ok : ∀ b w, wd b = some w → w ∈ five
theorem Wd.get {K : PySem.W.Frag} {H : Hp} {d : Addr} {wd : Int → Option Str} {n : Nat} (x : Wd K H d wd n) {b : Int} {w : Str} (h : wd b = some w) :
    ∃ (t : Addr) (rest : List V), DGet H d (.int b) (some (.ref t)) ∧ SqT K H t (.str w :: rest) := by
  obtain ⟨kvs, h1, _, h2⟩ := x.ex
  obtain ⟨t, rest, e, q⟩ := h2 b w h
  have g := DGet.k (k := Sum.inl b) h1
  rw [e] at g
  exact ⟨t, rest, g, q⟩
theorem Wd.same {K : PySem.W.Frag} {H H' : Hp} {d : Addr} {wd : Int → Option Str} {n : Nat} (x : Wd K H d wd n) (s : Same H H') : Wd K H' d wd n := by
  obtain ⟨⟨kvs, h1, h0, h2⟩, ok⟩ := x
  exact ⟨⟨kvs, s _ _ h1, h0, fun b w e => let ⟨t, r, e1, e2⟩ := h2 b w e; ⟨t, r, e1, sqt_same s e2⟩⟩, ok⟩
theorem Wd.lst {K : PySem.W.Frag} {H : Hp} {d D : Addr} {wd : Int → Option Str} {n : Nat} {ys zs : List V} (x : Wd K H d wd n) (h : H D = some (.lst ys)) : Wd K (upd H D (.lst zs)) d wd n := by
  obtain ⟨⟨kvs, h1, h0, h2⟩, ok⟩ := x
  exact ⟨⟨kvs, by rw [upd_ne (ne_of h1 h (by intro z; cases z))]; exact h1, h0, fun b w e => let ⟨t, r, e1, e2⟩ := h2 b w e; ⟨t, r, e1, sqt_put h e2⟩⟩, ok⟩
theorem Wd.kp {M : Addr → Prop} {K : PySem.W.Frag} {H H' : Hp} {d : Addr} {wd : Int → Option Str} {n : Nat} (x : Wd K H d wd n) (k : Kp M H H') : Wd K H' d wd n := by
  obtain ⟨⟨kvs, h1, h0, h2⟩, ok⟩ := x
  refine ⟨⟨kvs, k.st _ _ (fun m => ?_) h1, h0, fun b w e => let ⟨t, r, e1, e2⟩ := h2 b w e; ⟨t, r, e1, k.tup e2⟩⟩, ok⟩
  obtain ⟨xs, e⟩ := k.l1 _ m
  rw [h1] at e
  cases e
theorem len_put {kvs : List (Key × V)} {k : Key} {v : V} : (putK kvs k v).length ≤ kvs.length + 1 := by
  unfold putK
  split
  · rw [List.length_map]
    omega
  · rw [List.length_append]
    exact Nat.le_refl _
theorem Wd.put {K : PySem.W.Frag} {H : Hp} {d t : Addr} {wd : Int → Option Str} {n : Nat} {b : Int} {w : Str} {rest : List V} (x : Wd K H d wd n) (hn : n < 1000) (ht : SqT K H t (.str w :: rest)) (hw : w ∈ five) :
    ∃ H', DPut H d (.int b) (.ref t) H' ∧ Wd K H' d (fun y => if y = b then some w else wd y) (n + 1) ∧ ∀ a, a ≠ d → H' a = H a := by
  obtain ⟨⟨kvs, h1, h0, h2⟩, ok⟩ := x
  have keep : ∀ a xs, SqT K H a xs → SqT K (upd H d (.dK (putK kvs (Sum.inl b) (.ref t)))) a xs := fun a xs h => by
    rcases h with (h | ⟨o, h⟩) | h
    · exact .inl (.inl (by rw [upd_ne (ne_of h h1 (by intro z; cases z))]; exact h))
    · exact .inl (.inr ⟨o, by rw [upd_ne (ne_of h h1 (by intro z; cases z))]; exact h⟩)
    · exact .inr h
  refine ⟨_, DPut.k (k := Sum.inl b) h1 (Nat.lt_of_le_of_lt h0 (Nat.lt_trans hn (by decide))), ⟨⟨_, upd_same, Nat.le_trans len_put (Nat.succ_le_succ h0), fun y u e => ?_⟩, fun y u e => ?_⟩, fun a q => upd_ne q⟩
  · by_cases q : y = b
    · rw [if_pos q] at e
      cases e
      subst q
      exact ⟨t, rest, by rw [valV_put, if_pos rfl], keep _ _ ht⟩
    · rw [if_neg q] at e
      obtain ⟨t', r', e1, e2⟩ := h2 y u e
      exact ⟨t', r', by rw [valV_put, if_neg (fun z => q (Sum.inl.inj z))]; exact e1, keep _ _ e2⟩
  · by_cases q : y = b
    · rw [if_pos q] at e
      cases e
      exact hw
    · rw [if_neg q] at e
      exact ok y u e
theorem Wd.nil {K : PySem.W.Frag} {H : Hp} {d : Addr} (h : H d = some (.dK [])) : Wd K H d (fun _ => none) 0 :=
  ⟨⟨[], h, Nat.le_refl _, fun _ _ e => by cases e⟩, fun _ _ e => by cases e⟩
def cutf (wd : Int → Option Str) (b : Int) : Bool := match wd b with
  | some w => decide (w ≠ "wait")
  | none => false
theorem cut_word {wd : Int → Option Str} {b : Int} {w : Str} (h : wd b = some w) (hw : w ∈ five) : inV (.str w) cutWs = cutf wd b ∧ decide (V.str w = V.str "wait") = !cutf wd b := by
  unfold cutf
  rw [h]
  unfold five at hw
  simp only [List.mem_cons, List.not_mem_nil, or_false] at hw
  rcases hw with rfl | rfl | rfl | rfl | rfl <;> exact ⟨by decide +kernel, by decide +kernel⟩
def tupI (x : List Int) : PyData := .tuple (x.map PyData.int)
theorem flat_tupI (xs : List (List Int)) : flatDs (xs.map tupI) = true := flatDs_of _ fun d hd => by
  obtain ⟨x, _, rfl⟩ := List.mem_map.mp hd
  show flatDs (x.map PyData.int) = true
  exact flatDs_ints x
theorem dp_tupI {K : PySem.W.Frag} {H : Hp} {t : Addr} {x : List Int} (h : SqT K H t (x.map V.int)) : Dp K H (.ref t) (tupI x) := .tup h (dpAll_ints x)
/-- a block is put at the end -/
theorem put_blk {K : PySem.W.Frag} {H : Hp} {B : Addr} {acc : List V} {v : V} {ds : List (List Int)} {x : List Int} (hB : H B = some (.lst acc)) (ha : DpAll K H acc (ds.map tupI)) (hv : Dp K H v (tupI x)) :
    DpAll K (upd H B (.lst (acc ++ [v]))) (acc ++ [v]) ((ds ++ [x]).map tupI) := by
  rw [List.map_append]
  refine DpAll.snoc (dp_keep (fun _ _ q => sqt_put hB q) (tupI x) _ (show flatD (tupI x) = true from flatDs_ints x) hv) (dps_keep (fun _ _ q => sqt_put hB q) _ _ (flat_tupI ds) ha)
def spCut (K : PySem.W.Frag) : Sp := fun vs H Q _ => ∃ (a d : Addr) (fs : List Int) (wd : Int → Option Str) (n : Nat), vs = [.ref a, .ref d] ∧ (SqL K H a (fs.map V.int) ∨ SqT K H a (fs.map V.int)) ∧ Wd K H d wd n ∧ (∀ b ∈ fs, ∃ w, wd b = some w) ∧ fs.length ≤ 1000 ∧
  ∀ (t : Addr) (acc : List V) (H' : Hp), Same H H' → SqT K H' t acc → DpAll K H' acc ((blk (cutf wd) fs).map tupI) → Q (.ref t) H'
section
variable {P : Program} {w : World} {K : PySem.W.Frag} {mg : Str → Option Value} {base : Heap}
abbrev s_p_cut_blocks : Stmt := top 3
abbrev N_p_cut_blocks : List Str := ["frames", "things", "blocks", "waits", "birth"]
theorem sc_p_cut_blocks : FnScope N_p_cut_blocks ["frames", "things"] (defScope s_p_cut_blocks) := ⟨rfl, rfl, rfl, by decide +kernel, rfl, by decide +kernel, by decide +kernel⟩
theorem ok_cut_blocks (T : Txt mg) (U : Top K mg) (D : At K mg "cut_blocks" s_p_cut_blocks ["frames", "things"]) : Cl P w K mg base 1 "cut_blocks" (spCut K) := by
  refine cl_of D sc_p_cut_blocks (fun vs H Q E h => ?_) fun f cdv A outer s H vs Q E hr h => ?_
  · obtain ⟨a, d, fs, wd, n, rfl, _⟩ := h
    rfl
  · obtain ⟨a, d, fs, wd, n, rfl, ha, hd, hin, hlen, k⟩ := h
    have hu := hu_of hr
    obtain ⟨ca, mcw, hcw⟩ := U.cw
    obtain ⟨tb, mmb⟩ := U.mb
    refine ⟨_, (pss_cons (ps_set (i := 2) sc_p_cut_blocks.nd rfl (Or.inl rfl) (pe_lst pa_nil))
      (pss_cons (ps_set (i := 3) sc_p_cut_blocks.nd rfl (Or.inl rfl) (pe_lst pa_nil))
      (pss_cons (ps_for PassesOwn.never rfl (pi_seq (pv 0)) (pg_name (i := 4) sc_p_cut_blocks.nd rfl (Or.inl rfl))
        (pss_one (ps_if (pt_cmpR op_in_seq (pe_ix ix_tup (pe_dget hu (pv 1) (pv 4) (fun _ _ => rfl)) pe_int (fun _ _ => rfl)) (pe_glob (v := .ref ca) (by rfl) mcw rfl) (by rfl))
          (pss_mid (ps_if (pt_truth (pv 3) (by intro _; rfl))
            (pss_cons (ps_expr (pe_bm PySem.F.plainAttrs_list PySem.F.slot_list_append PySem.F.type_list_append mt_append (pv 2) (pa_cons (pe_tupleOf (by rfl) T.tuple (pv 3)) pa_nil)))
            (pss_one (ps_set (i := 3) sc_p_cut_blocks.nd rfl (Or.inl rfl) (pe_lst pa_nil))))
            pss_nil)
          (pss_one (ps_expr (pe_bm PySem.F.plainAttrs_list PySem.F.slot_list_append PySem.F.type_list_append mt_append (pv 2) (pa_cons (pe_tup (pa_cons (pv 4) pa_nil)) pa_nil)))))
          (pss_cons (ps_expr (pe_bm PySem.F.plainAttrs_list PySem.F.slot_list_append PySem.F.type_list_append mt_append (pv 3) (pa_cons (pv 4) pa_nil)))
          (pss_one (ps_if (pt_cmpR op_eq (pe_callB call_len_seq (by rfl) T.len (by decide +kernel) (pa_cons (pv 3) pa_nil)) (pe_glob (v := .int 4) (by rfl) mmb ⟨_, rfl⟩) (nomark _))
            (pss_cons (ps_expr (pe_bm PySem.F.plainAttrs_list PySem.F.slot_list_append PySem.F.type_list_append mt_append (pv 2) (pa_cons (pe_tupleOf (by rfl) T.tuple (pv 3)) pa_nil)))
            (pss_one (ps_set (i := 3) sc_p_cut_blocks.nd rfl (Or.inl rfl) (pe_lst pa_nil))))
            pss_nil))))))
      (pss_mid (ps_if (pt_truth (pv 3) (by intro _; rfl))
        (pss_one (ps_expr (pe_bm PySem.F.plainAttrs_list PySem.F.slot_list_append PySem.F.type_list_append mt_append (pv 2) (pa_cons (pe_tupleOf (by rfl) T.tuple (pv 3)) pa_nil))))
        pss_nil)
      (pss_one (ps_ret (pe_tupleOf (by rfl) T.tuple (pv 2)))))))), ?_⟩
    refine ⟨by show 0 ≤ sizeLine; decide, fun B hB => ⟨by show 0 ≤ sizeLine; decide, fun W hW => ?_⟩⟩
    have s0 : Same H (upd (upd H B (.lst [])) W (.lst [])) := (same_new hB).trans (same_new hW)
    have hW0 : H W = none := by
      cases e : H W with
      | none => rfl
      | some o =>
        have := same_new (o := .lst []) hB _ _ e
        rw [hW] at this
        cases this
    have nBW : B ≠ W := fun q => by rw [← q, upd_same] at hW; cases hW
    -- the loop, over a list or a tuple
    have sz : ∀ (c : Int → Bool) (i : Nat), (run c ([], []) (fs.take i)).1.length ≤ i := fun c i => by
      have h1 : ∀ xs : List (List Int), (∀ x ∈ xs, x ≠ []) → xs.length ≤ xs.flatten.length := by
        intro xs
        induction xs with
        | nil => intro _; simp
        | cons x r ih =>
          intro h
          have := ih fun y hy => h y (List.mem_cons_of_mem _ hy)
          have := List.length_pos_iff.mpr (h x List.mem_cons_self)
          rw [List.flatten_cons, List.length_append, List.length_cons]
          omega
      have h2 := run_flat c (fs.take i) ([], [])
      have h3 := congrArg List.length h2
      rw [fin_flat] at h3
      have h4 := h1 _ fun x hx => ((run_ok (fs.take i) (ok0 c)).2.2 x hx).1
      simp only [fin, if_true, List.flatten_nil, List.nil_append, List.length_append, List.length_take] at h3
      omega
    show tFor (iSeq K (tVar 0)) (gName 4) _ _ _ _
    refine for_seq (xs := fs.map V.int) (fun Q q => ⟨_, rfl, q⟩) ha (fun i σ H' => ∃ (B W : Addr) (acc : List V) (v4 : Option V), σ = [some (.ref a), some (.ref d), some (.ref B), some (.ref W), v4] ∧ Same H H' ∧ H B = none ∧ H W = none ∧ B ≠ W ∧ H' B = some (.lst acc) ∧
        DpAll K H' acc ((run (cutf wd) ([], []) (fs.take i)).1.map tupI) ∧ H' W = some (.lst ((run (cutf wd) ([], []) (fs.take i)).2.map V.int)))
      ⟨B, W, [], _, rfl, s0, hB, hW0, nBW, by rw [upd_ne nBW]; exact upd_same, .nil, upd_same⟩ (fun i σ H' z => by
          obtain ⟨_, _, _, _, _, s1, _⟩ := z
          exact s1) ?_ ?_
    · rintro i x σ H1 hi ⟨B, W, acc, v4, rfl, s1, nB, nW, nBW, hB, hacc, hW⟩ ex
      obtain ⟨b, eb, rfl⟩ := map_at ex
      obtain ⟨wb, ewb⟩ := hin b (List.mem_of_getElem? eb)
      have hd1 := hd.same s1
      obtain ⟨t, rest, g1, g2⟩ := hd1.get ewb
      have ew := (cut_word ewb (hd.ok b wb ewb)).1
      have es := run_snoc (cutf wd) ([], []) (fs.take i) b
      rw [← take_snoc eb] at es
      have ok := run_ok (fs.take i) (ok0 (cutf wd))
      have hsz := sz (cutf wd) i
      have hla : acc.length < sizeLine := by
        have := DpAll.len hacc
        rw [List.length_map] at this
        rw [List.length_map] at hi
        exact Nat.lt_of_lt_of_le (show acc.length < 2000 by omega) (by decide)
      rw [es]
      generalize run (cutf wd) ([], []) (fs.take i) = S at *
      have hat : atI (V.str wb :: rest) 0 = some (V.str wb) := atI_nat (j := 0) rfl
      refine ⟨_, rfl, _, rfl, d, _, rfl, g1, t, _, _, _, rfl, rfl, g2, hat, ca, _, rfl, .inr (hcw _), rfl, by decide +kernel, _, rfl, ?_⟩
      rw [show (if false = true then !inV (.str wb) cutWs else inV (.str wb) cutWs) = inV (.str wb) cutWs from rfl, ew]
      by_cases hc : cutf wd b = true
      · rw [hc]
        refine iteT ?_
        have e2 : stp (cutf wd) S b = (fin S ++ [[b]], []) := by unfold stp; rw [if_pos hc]
        rw [e2]
        refine ⟨fun σ' H' => ∃ (W : Addr) (acc : List V), σ' = [some (.ref a), some (.ref d), some (.ref B), some (.ref W), some (.int b)] ∧ Same H H' ∧ H W = none ∧ B ≠ W ∧ H' B = some (.lst acc) ∧ DpAll K H' acc ((fin S).map tupI) ∧ H' W = some (.lst []), ?_, ?_⟩
        · refine ⟨_, rfl, _, .inl ⟨_, .inl (.inl hW), rfl⟩, ?_⟩
          by_cases he : S.2 = []
          · rw [he]
            refine iteF ⟨W, acc, rfl, s1, nW, nBW, hB, ?_, by rw [hW, he]; rfl⟩
            rw [show fin S = S.1 by unfold fin; rw [if_pos he]]
            exact hacc
          · rw [show (!(S.2.map V.int).isEmpty) = true by
              cases e : S.2 with
              | nil => exact absurd e he
              | cons _ _ => rfl]
            refine iteT ?_
            refine ⟨_, rfl, .inl ⟨rfl, _, .inl (.inl hB)⟩, _, rfl, .inl ⟨W, _, rfl, .inl (.inl hW), fun q hq => ?_⟩⟩
            have hBq : upd H1 q (.tup (S.2.map V.int)) B = some (.lst acc) := (same_new hq) _ _ hB
            refine ⟨B, acc, _, rfl, rfl, hBq, hla, by show 0 ≤ sizeLine; decide, fun W2 hW2 => ?_⟩
            have s2 := s1.trans (same_new (o := .tup (S.2.map V.int)) hq)
            have s3 := same_put (o := .lst (acc ++ [.ref q])) s2 nB
            have hW2' : H W2 = none := by
              cases e : H W2 with
              | none => rfl
              | some o =>
                have := s3 _ _ e
                rw [hW2] at this
                cases this
            have nBW2 : B ≠ W2 := fun z => by rw [← z, upd_same] at hW2; cases hW2
            refine ⟨W2, acc ++ [.ref q], rfl, s3.trans (same_new hW2), hW2', nBW2, by rw [upd_ne nBW2]; exact upd_same, ?_, upd_same⟩
            rw [show fin S = S.1 ++ [S.2] by unfold fin; rw [if_neg he]]
            exact dps_same (same_new hW2) _ _ (put_blk hBq (dps_same (same_new hq) _ _ hacc) (dp_tupI (.inl (.inl upd_same))))
        · rintro σ' H2 ⟨W, acc2, rfl, s2, nW, nBW, hB2, ha2, hW2⟩
          have hla2 : acc2.length < sizeLine := by
            have := DpAll.len ha2
            rw [List.length_map] at this
            have : (fin S).length ≤ S.1.length + 1 := by
              unfold fin
              split
              · omega
              · rw [List.length_append]
                exact Nat.le_refl _
            rw [List.length_map] at hi
            exact Nat.lt_of_lt_of_le (show acc2.length < 2000 by omega) (by decide)
          refine ⟨_, rfl, .inl ⟨rfl, _, .inl (.inl hB2)⟩, _, rfl, by show 1 ≤ sizeLine; decide, fun q hq => ?_⟩
          have hBq : upd H2 q (.tup [.int b]) B = some (.lst acc2) := (same_new hq) _ _ hB2
          refine ⟨B, acc2, _, rfl, rfl, hBq, hla2, ?_⟩
          refine ⟨B, W, acc2 ++ [.ref q], _, rfl, same_put (s2.trans (same_new hq)) nB, nB, nW, nBW, upd_same, put_blk hBq (dps_same (same_new hq) _ _ ha2) (dp_tupI (x := [b]) (.inl (.inl upd_same))), ?_⟩
          rw [upd_ne nBW.symm]
          exact (same_new hq) _ _ hW2
      · have hc' : cutf wd b = false := by simpa using hc
        rw [hc']
        refine iteF ?_
        refine ⟨_, rfl, .inl ⟨rfl, _, .inl (.inl hW)⟩, _, rfl, W, _, _, rfl, rfl, hW, ?_, ?_⟩
        · rw [List.length_map]
          exact Nat.lt_of_le_of_lt ok.1 (by decide)
        have hWn : upd H1 W (.lst (S.2.map V.int ++ [.int b])) W = some (.lst ((S.2 ++ [b]).map V.int)) := by rw [upd_same, List.map_append]; rfl
        have hBn : upd H1 W (.lst (S.2.map V.int ++ [.int b])) B = some (.lst acc) := by rw [upd_ne nBW]; exact hB
        have s2 := same_put (o := .lst (S.2.map V.int ++ [.int b])) s1 nW
        have ha2 : DpAll K (upd H1 W (.lst (S.2.map V.int ++ [.int b]))) acc (S.1.map tupI) := dps_keep (fun _ _ q => sqt_put hW q) _ _ (flat_tupI _) hacc
        generalize upd H1 W (.lst (S.2.map V.int ++ [.int b])) = H2 at *
        refine ⟨_, rfl, W, _, rfl, .inl (.inl (.inl hWn)), rfl, _, rfl, ?_⟩
        by_cases hf : S.2.length + 1 = 4
        · have e2 : stp (cutf wd) S b = (S.1 ++ [S.2 ++ [b]], []) := by unfold stp; rw [if_neg hc, if_pos hf]
          rw [e2]
          rw [show decide (V.int ((((S.2 ++ [b]).map V.int).length : Nat) : Int) = V.int 4) = true by
            rw [List.length_map, List.length_append, List.length_singleton, hf]; rfl]
          refine iteT ?_
          refine ⟨_, rfl, .inl ⟨rfl, _, .inl (.inl hBn)⟩, _, rfl, .inl ⟨W, _, rfl, .inl (.inl hWn), fun q hq => ?_⟩⟩
          have hBq : upd H2 q (.tup ((S.2 ++ [b]).map V.int)) B = some (.lst acc) := (same_new hq) _ _ hBn
          refine ⟨B, acc, _, rfl, rfl, hBq, hla, by show 0 ≤ sizeLine; decide, fun W2 hW2 => ?_⟩
          have s3 := same_put (o := .lst (acc ++ [.ref q])) (s2.trans (same_new (o := .tup ((S.2 ++ [b]).map V.int)) hq)) nB
          have hW2' : H W2 = none := by
            cases e : H W2 with
            | none => rfl
            | some o =>
              have := s3 _ _ e
              rw [hW2] at this
              cases this
          have nBW2 : B ≠ W2 := fun z => by rw [← z, upd_same] at hW2; cases hW2
          exact ⟨B, W2, acc ++ [.ref q], _, rfl, s3.trans (same_new hW2), nB, hW2', nBW2, by rw [upd_ne nBW2]; exact upd_same,
            dps_same (same_new hW2) _ _ (put_blk hBq (dps_same (same_new hq) _ _ ha2) (dp_tupI (.inl (.inl upd_same)))), upd_same⟩
        · have e2 : stp (cutf wd) S b = (S.1, S.2 ++ [b]) := by unfold stp; rw [if_neg hc, if_neg hf]
          rw [e2]
          rw [show decide (V.int ((((S.2 ++ [b]).map V.int).length : Nat) : Int) = V.int 4) = false by
            rw [List.length_map, List.length_append, List.length_singleton]
            refine decide_eq_false fun z => hf ?_
            have := V.int.inj z
            omega]
          exact iteF ⟨B, W, acc, _, rfl, s2, nB, nW, nBW, hBn, ha2, hWn⟩
    · rintro σ H1 ⟨B, W, acc, v4, rfl, s1, nB, nW, nBW, hB, hacc, hW⟩
      rw [List.length_map, List.take_length] at hacc hW
      have hsz := sz (cutf wd) fs.length
      rw [List.take_length] at hsz
      have hla : acc.length < sizeLine := by
        have := DpAll.len hacc
        rw [List.length_map] at this
        exact Nat.lt_of_lt_of_le (show acc.length < 2000 by omega) (by decide)
      have eb : blk (cutf wd) fs = fin (run (cutf wd) ([], []) fs) := rfl
      rw [eb] at k
      generalize run (cutf wd) ([], []) fs = S at *
      refine ⟨fun σ' H' => ∃ acc : List V, σ' = [some (.ref a), some (.ref d), some (.ref B), some (.ref W), v4] ∧ Same H H' ∧ H' B = some (.lst acc) ∧ DpAll K H' acc ((fin S).map tupI), ?_, ?_⟩
      · refine ⟨_, rfl, _, .inl ⟨_, .inl (.inl hW), rfl⟩, ?_⟩
        by_cases he : S.2 = []
        · rw [he]
          refine iteF ⟨acc, rfl, s1, hB, ?_⟩
          rw [show fin S = S.1 by unfold fin; rw [if_pos he]]
          exact hacc
        · rw [show (!(S.2.map V.int).isEmpty) = true by
            cases e : S.2 with
            | nil => exact absurd e he
            | cons _ _ => rfl]
          refine iteT ?_
          refine ⟨_, rfl, .inl ⟨rfl, _, .inl (.inl hB)⟩, _, rfl, .inl ⟨W, _, rfl, .inl (.inl hW), fun q hq => ?_⟩⟩
          have hBq : upd H1 q (.tup (S.2.map V.int)) B = some (.lst acc) := (same_new hq) _ _ hB
          refine ⟨B, acc, _, rfl, rfl, hBq, hla, acc ++ [.ref q], rfl, same_put (s1.trans (same_new hq)) nB, upd_same, ?_⟩
          rw [show fin S = S.1 ++ [S.2] by unfold fin; rw [if_neg he]]
          exact put_blk hBq (dps_same (same_new hq) _ _ hacc) (dp_tupI (.inl (.inl upd_same)))
      · rintro σ' H2 ⟨acc2, rfl, s2, hB2, ha2⟩
        refine ⟨_, rfl, .inl ⟨B, _, rfl, .inl (.inl hB2), fun q hq => ?_⟩⟩
        exact k q acc2 _ (s2.trans (same_new hq)) (.inl (.inl upd_same)) (dps_same (same_new hq) _ _ ha2)
end
end K24

namespace K24
open PySem L2 Cm
/-- lists of ints of their own, one a block -/
structure Par (H : Hp) (ps : List Addr) (bls : List (List Int)) : Prop where
  len : ps.length = bls.length
  nd : ps.Nodup
  at_ : ∀ (i : Nat) (p : Addr) (x : List Int), ps[i]? = some p → bls[i]? = some x → H p = some (.lst (x.map V.int))
theorem Par.keep {H H' : Hp} {ps : List Addr} {bls : List (List Int)} (x : Par H ps bls) (h : ∀ p ∈ ps, H' p = H p) : Par H' ps bls :=
  ⟨x.len, x.nd, fun i p y e1 e2 => by rw [h p (List.mem_of_getElem? e1)]; exact x.at_ i p y e1 e2⟩
theorem Par.lst {H : Hp} {ps : List Addr} {bls : List (List Int)} (x : Par H ps bls) {p : Addr} (h : p ∈ ps) : ∃ xs, H p = some (.lst xs) := by
  obtain ⟨i, hi, e⟩ := List.getElem_of_mem h
  have hb : i < bls.length := x.len ▸ hi
  exact ⟨_, x.at_ i p bls[i] (by rw [List.getElem?_eq_getElem hi, e]) (List.getElem?_eq_getElem hb)⟩
theorem Par.add {H : Hp} {ps : List Addr} {bls : List (List Int)} {q : Addr} {y : List Int} (x : Par H ps bls) (n : q ∉ ps) (h : H q = some (.lst (y.map V.int))) : Par H (ps ++ [q]) (bls ++ [y]) := by
  refine ⟨by rw [List.length_append, List.length_append, x.len]; rfl, ?_, fun i p z e1 e2 => ?_⟩
  · rw [List.nodup_append]
    refine ⟨x.nd, by simp, fun a ha b hb => ?_⟩
    cases List.mem_singleton.mp hb
    exact fun e => n (e ▸ ha)
  · by_cases hi : i < ps.length
    · rw [List.getElem?_append_left hi] at e1
      rw [List.getElem?_append_left (x.len ▸ hi)] at e2
      exact x.at_ i p z e1 e2
    · have hj : i = ps.length := by
        have := (List.getElem?_eq_some_iff.mp e1).1
        rw [List.length_append, List.length_singleton] at this
        omega
      subst hj
      rw [List.getElem?_append_right (Nat.le_refl _), Nat.sub_self] at e1
      rw [x.len, List.getElem?_append_right (Nat.le_refl _), Nat.sub_self] at e2
      simp only [List.getElem?_cons_zero, Option.some.injEq] at e1 e2
      subst e1 e2
      exact h
theorem Par.split {H : Hp} {ps : List Addr} {bls : List (List Int)} {y : List Int} (x : Par H ps (bls ++ [y])) : ∃ qs q, ps = qs ++ [q] ∧ Par H qs bls ∧ q ∉ qs ∧ H q = some (.lst (y.map V.int)) := by
  have hl := x.len
  rw [List.length_append, List.length_singleton] at hl
  have hne : ps ≠ [] := fun e => by rw [e] at hl; simp at hl
  obtain ⟨qs, q, e⟩ : ∃ qs q, ps = qs ++ [q] := ⟨ps.dropLast, ps.getLast hne, (List.dropLast_concat_getLast hne).symm⟩
  subst e
  rw [List.length_append, List.length_singleton] at hl
  have hl' : qs.length = bls.length := by omega
  have nd := x.nd
  rw [List.nodup_append] at nd
  refine ⟨qs, q, rfl, ⟨hl', nd.1, fun i p z e1 e2 => x.at_ i p z ?_ ?_⟩, fun m => nd.2.2 q m q (by simp) rfl, x.at_ qs.length q y ?_ ?_⟩
  · rw [List.getElem?_append_left (List.getElem?_eq_some_iff.mp e1).1]; exact e1
  · rw [List.getElem?_append_left (List.getElem?_eq_some_iff.mp e2).1]; exact e2
  · rw [List.getElem?_append_right (Nat.le_refl _), Nat.sub_self]; rfl
  · rw [hl', List.getElem?_append_right (Nat.le_refl _), Nat.sub_self]; rfl
theorem range_map {α β : Type} (f : α → β) (l : List α) : (List.range l.length).filterMap (fun i => (l[i]?).map f) = l.map f := by
  induction l with
  | nil => rfl
  | cons a l ih =>
    rw [List.length_cons, List.range_succ_eq_map, List.filterMap_cons]
    simp only [List.getElem?_cons_zero, Option.map_some, List.filterMap_map]
    rw [List.map_cons, ← ih]
    congr 1
theorem ke_tupleOf {X : Cx} {K : PySem.W.Frag} {a : Expr} {ta : TE} {p pos : Pos} (hg : Gl X "tuple") (hm : X.mg "tuple" = none) (ha : PE X a ta) (h : X.K = K := by rfl) (na : starEach [a] X.env = (false, eval a X.env) :: starEach [] X.env := by rfl) :
    PE X (.Call (.Name "tuple" p) [a] [] pos) (tThen ta (kTup K)) := by
  subst h
  exact pe_tupleOf hg hm ha na
section
variable {P : Program} {w : World} {K : PySem.W.Frag} {mg : Str → Option Value} {base : Heap}
abbrev s_l_cuts : Stmt := top 9
abbrev N_l_cuts : List Str := ["_law_births", "_law_things", "_law_found", "_law_room", "_law_birth", "_law_one"]
theorem sc_l_cuts : FnScope N_l_cuts ["_law_births", "_law_things"] (defScope s_l_cuts) := ⟨rfl, rfl, rfl, by decide +kernel, rfl, by decide +kernel, by decide +kernel⟩
theorem ok_cuts (T : Txt mg) (D : At K mg "_law_cuts" s_l_cuts ["_law_births", "_law_things"]) : Cl P w K mg base 1 "_law_cuts" (spCut K) := by
  refine cl_of D sc_l_cuts (fun vs H Q E h => ?_) fun f cdv A outer s H vs Q E hr h => ?_
  · obtain ⟨a, d, fs, wd, n, rfl, _⟩ := h
    rfl
  · obtain ⟨a, d, fs, wd, n, rfl, ha, hd, hin, hlen, k⟩ := h
    have hu := hu_of hr
    refine ⟨_, (pss_cons (ps_set (i := 2) sc_l_cuts.nd rfl (Or.inl rfl) (pe_lst pa_nil))
      (pss_cons (ps_set (i := 3) sc_l_cuts.nd rfl (Or.inl rfl) pe_int)
      (pss_cons (ps_for PassesOwn.never rfl (pi_seq (pv 0)) (pg_name (i := 4) sc_l_cuts.nd rfl (Or.inl rfl))
        (pss_one (ps_if (pt_cmpR op_ne (pe_ix ix_tup (pe_dget hu (pv 1) (pv 4) (fun _ _ => rfl)) pe_int (fun _ _ => rfl)) pe_str (nomark _))
          (pss_cons (ps_expr (pe_bm PySem.F.plainAttrs_list PySem.F.slot_list_append PySem.F.type_list_append mt_append (pv 2) (pa_cons (pe_lst (pa_cons (pv 4) pa_nil)) pa_nil)))
          (pss_one (ps_set (i := 3) sc_l_cuts.nd rfl (Or.inl rfl) pe_int)))
          (pss_one (ps_if (pt_cmpR op_eq (pv 3) pe_int (nomark _))
            (pss_cons (ps_expr (pe_bm PySem.F.plainAttrs_list PySem.F.slot_list_append PySem.F.type_list_append mt_append (pv 2) (pa_cons (pe_lst (pa_cons (pv 4) pa_nil)) pa_nil)))
            (pss_one (ps_set (i := 3) sc_l_cuts.nd rfl (Or.inl rfl) pe_int)))
            (pss_cons (ps_expr (pe_bm PySem.F.plainAttrs_list PySem.F.slot_list_append PySem.F.type_list_append mt_append (pe_ix ix_list (pv 2) (pe_un un_neg pe_int) (fun _ _ => rfl)) (pa_cons (pv 4) pa_nil)))
            (pss_one (ps_set (i := 3) sc_l_cuts.nd rfl (Or.inl rfl) (pe_op op_sub (pv 3) pe_int)))))))))
      (pss_one (ps_ret (pe_tupleOf (by rfl) T.tuple (pe_lc (own := [("_law_one", 5)]) rfl sc_l_cuts.nd (pi_list (pv 2)) (blkOk_by (N := N_l_cuts) (sc := defScope s_l_cuts) (by decide +kernel))
      (fun _ _ _ _ _ => (pg_name (i := 5) sc_l_cuts.nd rfl (Or.inl rfl)))
      (fun _ _ _ _ _ => pts_nil)
      (fun _ _ _ _ _ => (ke_tupleOf (K := K) (by rfl) T.tuple (pv 5)))))))))), ?_⟩
    refine ⟨by show 0 ≤ sizeLine; decide, fun F hF => ?_⟩
    show tFor (iSeq K (tVar 0)) (gName 4) _ _ _ _
    refine for_seq (xs := fs.map V.int) (fun Q q => ⟨_, rfl, q⟩) ha (fun i σ H' => ∃ (ps : List Addr) (v4 : Option V), σ = [some (.ref a), some (.ref d), some (.ref F), some (.int (room (run (cutf wd) ([], []) (fs.take i)) : Nat)), v4, none] ∧ Same H H' ∧ H' F = some (.lst (ps.map V.ref)) ∧
        (∀ p ∈ ps, H p = none ∧ p ≠ F) ∧ Par H' ps (fin (run (cutf wd) ([], []) (fs.take i))) ∧ ps.length ≤ i)
      ⟨[], _, rfl, same_new hF, upd_same, fun _ h => (by cases h), ⟨rfl, by simp, fun _ _ _ e => by simp at e⟩, Nat.le_refl _⟩ (fun i σ H' z => by
          obtain ⟨_, _, _, s1, _⟩ := z
          exact s1) ?_ ?_
    · rintro i x σ H1 hi ⟨ps, v4, rfl, s1, hFl, hps, hpar, hlp⟩ ex
      obtain ⟨b, eb, rfl⟩ := map_at ex
      obtain ⟨wb, ewb⟩ := hin b (List.mem_of_getElem? eb)
      obtain ⟨t, rest, g1, g2⟩ := (hd.same s1).get ewb
      have ew := (cut_word ewb (hd.ok b wb ewb)).2
      have es := run_snoc (cutf wd) ([], []) (fs.take i) b
      rw [← take_snoc eb] at es
      have ok := run_ok (fs.take i) (ok0 (cutf wd))
      rw [List.length_map] at hi
      have hll : (ps.map V.ref).length < sizeLine := by
        rw [List.length_map]
        exact Nat.lt_of_le_of_lt hlp (Nat.lt_of_lt_of_le (show i < 2000 by omega) (by decide))
      rw [es]
      generalize run (cutf wd) ([], []) (fs.take i) = S at *
      have hat : atI (V.str wb :: rest) 0 = some (V.str wb) := atI_nat (j := 0) rfl
      -- a block more
      have more : ∀ q, H1 q = none → Same H (upd (upd H1 q (.lst [.int b])) F (.lst (ps.map V.ref ++ [.ref q]))) ∧ (upd (upd H1 q (.lst [.int b])) F (.lst (ps.map V.ref ++ [.ref q]))) F = some (.lst ((ps ++ [q]).map V.ref)) ∧
          (∀ p ∈ ps ++ [q], H p = none ∧ p ≠ F) ∧ Par (upd (upd H1 q (.lst [.int b])) F (.lst (ps.map V.ref ++ [.ref q]))) (ps ++ [q]) (fin S ++ [[b]]) ∧ (ps ++ [q]).length ≤ i + 1 ∧ (upd H1 q (.lst [.int b])) F = some (.lst (ps.map V.ref)) := by
        intro q hq
        have nqF : q ≠ F := (ne_of_none hFl hq).symm
        have hq0 : H q = none := by
          cases e : H q with
          | none => rfl
          | some o =>
            have := s1 _ _ e
            rw [hq] at this
            cases this
        have nq : q ∉ ps := fun m => by
          obtain ⟨xs, e⟩ := hpar.lst m
          rw [hq] at e
          cases e
        refine ⟨same_put (s1.trans (same_new hq)) hF, by rw [upd_same, List.map_append]; rfl, fun p hp => ?_, ?_, by rw [List.length_append]; exact Nat.succ_le_succ hlp, (same_new hq) _ _ hFl⟩
        · rcases List.mem_append.mp hp with hp | hp
          · exact hps p hp
          · cases List.mem_singleton.mp hp
            exact ⟨hq0, nqF⟩
        · refine Par.add (hpar.keep fun p hp => ?_) nq ?_
          · rw [upd_ne (hps p hp).2, upd_ne (show p ≠ q by rintro rfl; exact nq hp)]
          · rw [upd_ne nqF, upd_same]
            rfl
      refine ⟨_, rfl, _, rfl, d, _, rfl, g1, t, _, _, _, rfl, rfl, g2, hat, rfl, _, rfl, ?_⟩
      rw [ew, Bool.not_not]
      by_cases hc : cutf wd b = true
      · rw [hc]
        obtain ⟨e1, e2⟩ := fin_cut (s := S) hc
        rw [e1, e2]
        refine iteT ?_
        refine ⟨_, rfl, .inl ⟨rfl, _, .inl (.inl hFl)⟩, _, rfl, by show 1 ≤ sizeLine; decide, fun q hq => ?_⟩
        obtain ⟨m1, m2, m3, m4, m5, m6⟩ := more q hq
        exact ⟨F, _, _, rfl, rfl, m6, hll, ps ++ [q], _, rfl, m1, m2, m3, m4, m5⟩
      · have hc' : cutf wd b = false := by simpa using hc
        rw [hc']
        refine iteF ?_
        refine ⟨_, rfl, rfl, _, rfl, ?_⟩
        by_cases hz : room S = 0
        · obtain ⟨e1, e2⟩ := fin_new hc' ok hz
          rw [e1, e2, hz]
          refine iteT ?_
          refine ⟨_, rfl, .inl ⟨rfl, _, .inl (.inl hFl)⟩, _, rfl, by show 1 ≤ sizeLine; decide, fun q hq => ?_⟩
          obtain ⟨m1, m2, m3, m4, m5, m6⟩ := more q hq
          exact ⟨F, _, _, rfl, rfl, m6, hll, ps ++ [q], _, rfl, m1, m2, m3, m4, m5⟩
        · obtain ⟨e1, e2, e3⟩ := fin_old hc' ok hz
          rw [show decide (V.int ((room S : Nat) : Int) = V.int 0) = false from decide_eq_false fun z => hz (by have := V.int.inj z; omega)]
          refine iteF ?_
          rw [e1] at hpar
          obtain ⟨qs, q, rfl, hp1, hp2, hp3⟩ := hpar.split
          rw [List.map_append] at hFl
          refine ⟨_, rfl, _, rfl, F, _, _, _, rfl, rfl, .inl (.inl hFl), atI_last _ _, .inl ⟨rfl, _, .inl (.inl hp3)⟩, _, rfl, q, _, _, rfl, rfl, hp3, ?_, ?_⟩
          · rw [List.length_map]
            exact Nat.lt_of_le_of_lt ok.1 (by decide)
          refine ⟨_, rfl, _, _, rfl, rfl, qs ++ [q], some (.int b), ?_, same_put s1 (hps q (by simp)).1, ?_, hps, ?_, by omega⟩
          · have ee : ((room S : Nat) : Int) - 1 = ((room (stp (cutf wd) S b) : Nat) : Int) := by omega
            show [some (V.ref a), some (V.ref d), some (V.ref F), some (V.int (((room S : Nat) : Int) - 1)), some (V.int b), none] = _
            rw [ee]
          · rw [upd_ne (hps q (by simp)).2.symm, List.map_append]
            exact hFl
          · rw [e2]
            refine Par.add (hp1.keep fun p hp => upd_ne (show p ≠ q by rintro rfl; exact hp2 hp)) hp2 ?_
            rw [upd_same, List.map_append]
            rfl
    · rintro σ H1 ⟨ps, v4, rfl, s1, hFl, hps, hpar, hlp⟩
      rw [List.length_map] at hlp
      rw [List.length_map, List.take_length] at hpar
      have eb : blk (cutf wd) fs = fin (run (cutf wd) ([], []) fs) := rfl
      rw [← eb] at hpar
      refine ⟨_, rfl, F, rfl, ⟨_, .inl (.inl hFl)⟩, fun D hD => ?_⟩
      refine lc_data (K := K) (walk_list (xs := ps.map V.ref)) (fun i => ((blk (cutf wd) fs)[i]?).map tupI) hD (by rw [List.length_map]; omega) (fun H' s1 => s1.seq (.inl (.inl hFl))) (fun i _ z e => ?_) ?_ ?_
      · obtain ⟨q, _, rfl⟩ := Option.map_eq_some_iff.mp e
        exact flatDs_ints q
      · rintro i x H2 H3 hi s2 ⟨rfl, e2⟩ Q1 Q0 q1 q0
        obtain ⟨p, ep, rfl⟩ := map_at e2
        rw [List.length_map] at hi
        have hb : i < (blk (cutf wd) fs).length := hpar.len ▸ hi
        have hp := s2 _ _ (hpar.at_ i p _ ep (List.getElem?_eq_getElem hb))
        refine ⟨rfl, ?_⟩
        refine ⟨_, rfl, .inl ⟨p, _, rfl, .inl (.inl hp), fun q hq => ?_⟩⟩
        exact q1 _ _ (tupI (blk (cutf wd) fs)[i]) (by rw [List.getElem?_eq_getElem hb]; rfl) (same_new hq) (dp_tupI (.inl (.inl upd_same)))
      · intro H2 acc s2 hacc ha2
        rw [List.length_map, hpar.len, range_map] at ha2
        refine .inl ⟨D, _, rfl, .inl (.inl hacc), fun t ht => ?_⟩
        exact k t acc _ ((s1.trans s2).trans (same_new ht)) (.inl (.inl upd_same)) (dps_same (same_new ht) _ _ ha2)
end
end K24

namespace K24
open PySem L2 Cm
def spFrame (K : PySem.W.Frag) : Sp := fun vs H Q _ => ∃ (h c : Addr) (w : Bool), vs = [.ref h, .bl w] ∧ Hand H h c ∧
  ∀ (t : Addr) (wd : Str) (rest : List V) (H' : Hp), Kh h H H' → Hand H' h c → SqT K H' t (.str wd :: rest) → wd ∈ five → Q (.ref t) H'
section
variable {P : Program} {w : World} {K : PySem.W.Frag} {mg : Str → Option Value} {base : Heap}
abbrev s_l_frame : Stmt := top 10
abbrev N_l_frame : List Str := ["_law_hand_here", "_law_waits", "_law_pick_here"]
theorem sc_l_frame : FnScope N_l_frame ["_law_hand_here", "_law_waits"] (defScope s_l_frame) := ⟨rfl, rfl, rfl, by decide +kernel, rfl, by decide +kernel, by decide +kernel⟩
theorem ok_frame (T : Txt mg) (c_l_draw : Cl P w K mg base 2 "_law_draw" spDraw) (c_l_pick : Cl P w K mg base 3 "_law_pick" (spPick K)) (D : At K mg "_law_frame" s_l_frame ["_law_hand_here", "_law_waits"]) :
    Cl P w K mg base 4 "_law_frame" (spFrame K) := by
  refine cl_of D sc_l_frame (fun vs H Q E h => ?_) fun f cdv A outer s H vs Q E hr h => ?_
  · obtain ⟨h, c, w, rfl, _⟩ := h
    rfl
  · obtain ⟨h, c, w, rfl, hh, k⟩ := h
    refine ⟨_, (pss_mid (ps_set (i := 2) sc_l_frame.nd rfl (Or.inl rfl) (pe_ifExp (pt_val (pv 1)) (pe_c c_l_draw hr (by decide) (by rfl) (pa_cons (pv 0) (pa_cons pe_int pa_nil))) (pe_c c_l_draw hr (by decide) (by rfl) (pa_cons (pv 0) (pa_cons pe_int pa_nil)))))
      (pss_cons (ps_if (pt_cmpR op_eq (pv 2) pe_int (nomark _))
        (pss_one (ps_ret (pe_tup (pa_cons pe_str pa_nil))))
        pss_nil)
      (pss_cons (ps_if (pt_cmpR op_eq (pv 2) pe_int (nomark _))
        (pss_one (ps_ret (pe_tup (pa_cons pe_str (pa_cons (pe_op op_add pe_int (pe_c c_l_draw hr (by decide) (by rfl) (pa_cons (pv 0) (pa_cons (pe_op op_pow pe_int pe_int) pa_nil)))) pa_nil)))))
        pss_nil)
      (pss_cons (ps_if (pt_cmpR op_eq (pv 2) pe_int (nomark _))
        (pss_one (ps_ret (pe_tup (pa_cons pe_str (pa_cons (pe_c c_l_draw hr (by decide) (by rfl) (pa_cons (pv 0) (pa_cons pe_int pa_nil))) (pa_cons (pe_tup (pa_cons pe_str (pa_cons (pe_op op_add pe_int (pe_c c_l_draw hr (by decide) (by rfl) (pa_cons (pv 0) (pa_cons pe_int pa_nil)))) pa_nil))) pa_nil))))))
        pss_nil)
      (pss_cons (ps_if (pt_cmpR op_eq (pv 2) pe_int (nomark _))
        (pss_one (ps_ret (pe_tup (pa_cons pe_str (pa_cons (pe_c c_l_pick hr (by decide) (by rfl) (pa_cons (pv 0) (pa_cons (pe_tup (pa_cons (pe_tup (pa_cons pe_str pa_nil)) (pa_cons (pe_tup (pa_cons pe_str pa_nil)) (pa_cons (pe_tup (pa_cons pe_str (pa_cons (pe_tup (pa_cons pe_int pa_nil)) pa_nil))) (pa_cons (pe_tup (pa_cons pe_str (pa_cons (pe_tup (pa_cons pe_int (pa_cons pe_int pa_nil))) (pa_cons pe_int pa_nil)))) pa_nil))))) pa_nil))) (pa_cons (pe_tup (pa_cons pe_str (pa_cons pe_int pa_nil))) pa_nil))))))
        pss_nil)
      (pss_one (ps_ret (pe_tup (pa_cons pe_str (pa_cons (pe_c c_l_draw hr (by decide) (by rfl) (pa_cons (pv 0) (pa_cons pe_int pa_nil))) (pa_cons (pe_tup (pa_cons (pe_c c_l_draw hr (by decide) (by rfl) (pa_cons (pv 0) (pa_cons (pe_op op_pow pe_int pe_int) pa_nil))) (pa_cons (pe_tup (pa_cons pe_str pa_nil)) pa_nil))) pa_nil))))))))))), ?_⟩
    refine ⟨fun σ' H' => ∃ n : Int, σ' = [some (.ref h), some (.bl w), some (.int n)] ∧ Kh h H H' ∧ Hand H' h c, ?_, ?_⟩
    · refine ⟨_, rfl, _, rfl, ?_⟩
      cases w
      · exact iteF ⟨_, rfl, h, c, _, rfl, hh, by decide, by decide, fun n H1 _ _ k1 hh1 => ⟨n, rfl, k1, hh1⟩⟩
      · exact iteT ⟨_, rfl, h, c, _, rfl, hh, by decide, by decide, fun n H1 _ _ k1 hh1 => ⟨n, rfl, k1, hh1⟩⟩
    · rintro σ' H1 ⟨n, rfl, k1, hh1⟩
      refine ⟨_, rfl, rfl, _, rfl, ?_⟩
      refine ite2 (fun _ => ?_) (fun _ => ?_)
      · refine ⟨by show 1 ≤ sizeLine; decide, fun t ht => ?_⟩
        exact k t "mark" [] _ (k1.trans (hh1.kh (same_new ht))) (hh1.same (same_new ht)) (.inl (.inl upd_same)) (by decide +kernel)
      refine ⟨_, rfl, rfl, _, rfl, ?_⟩
      refine ite2 (fun _ => ?_) (fun _ => ?_)
      · refine ⟨_, rfl, _, _, rfl, rfl, ⟨by decide, by decide, by decide⟩, h, c, _, rfl, hh1, by decide, by decide, fun n2 H2 _ _ k2 hh2 => ?_⟩
        refine ⟨_, _, rfl, rfl, by show 2 ≤ sizeLine; decide, fun t ht => ?_⟩
        exact k t "pass" _ _ ((k1.trans k2).trans (hh2.kh (same_new ht))) (hh2.same (same_new ht)) (.inl (.inl upd_same)) (by decide +kernel)
      refine ⟨_, rfl, rfl, _, rfl, ?_⟩
      refine ite2 (fun _ => ?_) (fun _ => ?_)
      · refine ⟨_, rfl, h, c, _, rfl, hh1, by decide, by decide, fun n2 H2 _ _ k2 hh2 => ?_⟩
        refine ⟨_, rfl, h, c, _, rfl, hh2, by decide, by decide, fun n3 H3 _ _ k3 hh3 => ?_⟩
        refine ⟨_, _, rfl, rfl, by show 2 ≤ sizeLine; decide, fun t1 ht1 => ⟨by show 3 ≤ sizeLine; decide, fun t ht => ?_⟩⟩
        have s1 := (same_new (o := .tup [.str "fun", .int (1 + n3)]) ht1).trans (same_new (o := .tup [.str "wind", .int n2, .ref t1]) ht)
        exact k t "wind" _ _ (((k1.trans k2).trans k3).trans (hh3.kh s1)) (hh3.same s1) (.inl (.inl upd_same)) (by decide +kernel)
      refine ⟨_, rfl, rfl, _, rfl, ?_⟩
      refine ite2 (fun _ => ?_) (fun _ => ?_)
      · refine ⟨_, rfl, by show 1 ≤ sizeLine; decide, fun t1 ht1 => ⟨by show 1 ≤ sizeLine; decide, fun t2 ht2 => ⟨by show 1 ≤ sizeLine; decide, fun t3 ht3 => ⟨by show 2 ≤ sizeLine; decide, fun t4 ht4 => ⟨by show 2 ≤ sizeLine; decide, fun t5 ht5 =>
          ⟨by show 3 ≤ sizeLine; decide, fun t6 ht6 => ⟨by show 4 ≤ sizeLine; decide, fun t7 ht7 => ?_⟩⟩⟩⟩⟩⟩⟩
        have s7 : Same H1 _ := (same_new ht1).trans ((same_new ht2).trans ((same_new ht3).trans ((same_new ht4).trans ((same_new ht5).trans ((same_new ht6).trans (same_new (o := .tup [.ref t1, .ref t2, .ref t4, .ref t6]) ht7))))))
        refine ⟨h, c, t7, _, rfl, hh1.same s7, .inr (.inl (.inl upd_same)), by simp, by show 4 ≤ 1000; decide, fun v H2 _ k2 hh2 => ?_⟩
        refine ⟨by show 2 ≤ sizeLine; decide, fun t8 ht8 => ⟨by show 3 ≤ sizeLine; decide, fun t ht => ?_⟩⟩
        have s9 : Same H2 _ := (same_new ht8).trans (same_new (o := .tup [.str "way", v, .ref t8]) ht)
        exact k t "way" _ _ (((k1.trans (hh1.kh s7)).trans k2).trans (hh2.kh s9)) (hh2.same s9) (.inl (.inl upd_same)) (by decide +kernel)
      refine ⟨_, rfl, h, c, _, rfl, hh1, by decide, by decide, fun n2 H2 _ _ k2 hh2 => ?_⟩
      refine ⟨_, rfl, _, _, rfl, rfl, ⟨by decide, by decide, by decide⟩, h, c, _, rfl, hh2, by decide, by decide, fun n3 H3 _ _ k3 hh3 => ?_⟩
      refine ⟨by show 1 ≤ sizeLine; decide, fun t1 ht1 => ⟨by show 2 ≤ sizeLine; decide, fun t2 ht2 => ⟨by show 3 ≤ sizeLine; decide, fun t ht => ?_⟩⟩⟩
      have s1 : Same H3 _ := (same_new ht1).trans ((same_new ht2).trans (same_new (o := .tup [.str "wait", .int n2, .ref t2]) ht))
      exact k t "wait" _ _ (((k1.trans k2).trans k3).trans (hh3.kh s1)) (hh3.same s1) (.inl (.inl upd_same)) (by decide +kernel)
end
end K24

namespace K24
open PySem L2 Cm
theorem lay_ints : ∀ x : List Int, PyData.canLayAll0 (x.map PyData.int) = true
  | [] => rfl
  | a :: x => by
    show (PyData.canLay0 (.int a) && PyData.canLayAll0 (x.map PyData.int)) = true
    rw [lay_ints x]
    rfl
theorem dep_ints : ∀ x : List Int, PyData.depthAll (x.map PyData.int) = 0
  | [] => by simp [PyData.depthAll]
  | a :: x => by simp [PyData.depthAll, PyData.depth, dep_ints x]
theorem lay_blk : ∀ x : List (List Int), PyData.canLayAll0 (x.map tupI) = true
  | [] => rfl
  | a :: x => by
    show (PyData.canLayAll0 (a.map PyData.int) && PyData.canLayAll0 (x.map tupI)) = true
    rw [lay_ints a, lay_blk x]
    rfl
theorem dep_blk : ∀ x : List (List Int), PyData.depthAll (x.map tupI) ≤ 1
  | [] => by simp [PyData.depthAll]
  | a :: x => by
    have := dep_blk x
    have := dep_ints a
    simp only [List.map_cons, PyData.depthAll, tupI, PyData.depth]
    omega
theorem sh_blk (x : List (List Int)) : SeqAt.shaped (.tuple (x.map tupI)) = true := by
  unfold SeqAt.shaped
  have h1 : PyData.canLay0 (.tuple (x.map tupI)) = true := lay_blk x
  have h2 := dep_blk x
  rw [h1, decide_eq_true (show PyData.depth (.tuple (x.map tupI)) ≤ 64 by simp only [PyData.depth]; omega)]
  rfl
theorem sh_tupI (x : List Int) : SeqAt.shaped (tupI x) = true := by
  unfold SeqAt.shaped
  have h1 : PyData.canLay0 (tupI x) = true := lay_ints x
  have h2 := dep_ints x
  rw [h1, decide_eq_true (show PyData.depth (tupI x) ≤ 64 by simp only [tupI, PyData.depth]; omega)]
  rfl
theorem ne_same' {d : PyData} (h : SeqAt.shaped d = true) : (!PyData.eqv d d) = false := by
  rw [SeqAt.eqv_refl d (SeqAt.canLay_of_shaped h)]
  rfl
theorem kc_isi {X : Cx} {K : PySem.W.Frag} (h : X.K = K := by rfl) : CallR X (.builtin "isinstance") (rIsi K) := by subst h; exact call_isi
theorem cut_to {xs : List V} {k : Nat} (h : k ≤ xs.length) : cutV xs Option.none (some (k : Int)) = xs.take k := by
  unfold cutV
  rw [HT.sIx_nat, HT.sIx_none, Nat.min_eq_left h, List.drop_zero, Nat.sub_zero]
theorem dp_tupI_inv {K : PySem.W.Frag} {H : Hp} {v : V} {x : List Int} (h : Dp K H v (tupI x)) : ∃ t, v = .ref t ∧ SqT K H t (x.map V.int) := by
  unfold tupI at h
  cases h with
  | @tup a its ds hs ha =>
    refine ⟨a, rfl, ?_⟩
    have e : its = x.map V.int := by
      clear hs
      induction x generalizing its with
      | nil => cases ha; rfl
      | cons i x ih =>
        cases ha with
        | cons h1 h2 =>
          cases h1
          rw [ih h2]
          rfl
    rw [← e]
    exact hs
theorem len_flat : ∀ xs : List (List Int), (∀ x ∈ xs, x ≠ []) → xs.length ≤ xs.flatten.length
  | [], _ => Nat.le_refl _
  | x :: r, h => by
    have := len_flat r fun y hy => h y (List.mem_cons_of_mem _ hy)
    have := List.length_pos_iff.mpr (h x List.mem_cons_self)
    rw [List.flatten_cons, List.length_append, List.length_cons]
    omega
theorem blk_len (c : Int → Bool) (fs : List Int) : (blk c fs).length ≤ fs.length := by
  have h := len_flat (blk c fs) fun x hx => (blk_ne c fs x hx).1
  rw [blk_flat] at h
  exact h
def spLaw (K : PySem.W.Frag) : Sp := fun vs H Q _ => ∃ (a : Addr) (ns : List Int), vs = [.ref a] ∧ SqL K H a (ns.map V.int) ∧ ns.length ≤ 63 ∧ ∀ H', Q (.bl true) H'
structure Calls (P : Program) (w : World) (K : PySem.W.Frag) (mg : Str → Option Value) (base : Heap) : Prop where
  hand : Cl P w K mg base 1 "_law_hand" (spHand K)
  draw : Cl P w K mg base 2 "_law_draw" spDraw
  frame : Cl P w K mg base 4 "_law_frame" (spFrame K)
  cuts : Cl P w K mg base 1 "_law_cuts" (spCut K)
  cut : Cl P w K mg base 1 "cut_blocks" (spCut K)
/-- the things and the two rows -/
structure Rows (K : PySem.W.Frag) (H : Hp) (d F S : Addr) (wd : Int → Option Str) (n : Nat) (p r1 r2 : List Int) : Prop where
  th : Wd K H d wd n
  fi : H F = some (.lst ((p ++ r1).map V.int))
  se : H S = some (.lst ((p ++ r2).map V.int))
  in1 : ∀ b ∈ p ++ r1, ∃ w, wd b = some w
  in2 : ∀ b ∈ p ++ r2, ∃ w, wd b = some w
  l1 : (p ++ r1).length ≤ 100
  l2 : (p ++ r2).length ≤ 100
theorem Rows.same {K : PySem.W.Frag} {H H' : Hp} {d F S : Addr} {wd : Int → Option Str} {n : Nat} {p r1 r2 : List Int} (x : Rows K H d F S wd n p r1 r2) (s : Same H H') : Rows K H' d F S wd n p r1 r2 :=
  ⟨x.th.same s, s _ _ x.fi, s _ _ x.se, x.in1, x.in2, x.l1, x.l2⟩
/-- and what was told of them -/
structure Told (K : PySem.W.Frag) (H : Hp) (d F S G t1 t2 : Addr) (acc1 acc2 : List V) (wd : Int → Option Str) (n : Nat) (p r1 r2 : List Int) : Prop where
  r : Rows K H d F S wd n p r1 r2
  g : H G = some (.lst ((p ++ r1).map V.int))
  s1 : SqT K H t1 acc1
  d1 : DpAll K H acc1 ((blk (cutf wd) (p ++ r1)).map tupI)
  s2 : SqT K H t2 acc2
  d2 : DpAll K H acc2 ((blk (cutf wd) (p ++ r2)).map tupI)
theorem Told.same {K : PySem.W.Frag} {H H' : Hp} {d F S G t1 t2 : Addr} {acc1 acc2 : List V} {wd : Int → Option Str} {n : Nat} {p r1 r2 : List Int} (x : Told K H d F S G t1 t2 acc1 acc2 wd n p r1 r2) (s : Same H H') : Told K H' d F S G t1 t2 acc1 acc2 wd n p r1 r2 :=
  ⟨x.r.same s, s _ _ x.g, sqt_same s x.s1, dps_same s _ _ x.d1, sqt_same s x.s2, dps_same s _ _ x.d2⟩
section
variable {P : Program} {w : World} {K : PySem.W.Frag} {mg : Str → Option Value} {base : Heap}
abbrev s_law : Stmt := top 11
abbrev N_law : List Str := ["_law_script", "_law_hand_here", "_law_waits", "_law_things", "_law_first", "_law_birth", "_law_k", "_law_common", "_law_second", "_law_given", "_law_told", "_law_other", "_law_one", "_law_joined", "_law_lain", "_law_two", "_law_closed"]
theorem sc_law : FnScope N_law ["_law_script"] (defScope s_law) := ⟨rfl, rfl, rfl, by decide +kernel, rfl, by decide +kernel, by decide +kernel⟩
theorem ok_law {f : Addr} {fd : FuncData} (T : Txt mg) (C : Calls P w K mg base) (F : Fun K "law" "law" s_law f fd) : LawAt P w K mg base 5 f fd ["_law_script"] (spLaw K) := by
  refine lawAt_of F sc_law (fun vs H Q E h => ?_) fun cdv A outer s H vs Q E hgd hr h => ?_
  · obtain ⟨a, ns, rfl, _⟩ := h
    rfl
  · obtain ⟨a, ns, rfl, hS, hlen, k⟩ := h
    have hu := hu_of hr
    refine ⟨_, (pss_cons (ps_set (i := 1) sc_law.nd rfl (Or.inl rfl) (pe_c C.hand hr (by decide) (by rfl) (pa_cons (pv 0) pa_nil)))
      (pss_cons (ps_set (i := 2) sc_law.nd rfl (Or.inl rfl) (pe_cmpR op_eq (pe_c C.draw hr (by decide) (by rfl) (pa_cons (pv 1) (pa_cons pe_int pa_nil))) pe_int (nomark _)))
      (pss_cons (ps_set (i := 3) sc_law.nd rfl (Or.inl rfl) pe_dnewK)
      (pss_cons (ps_set (i := 4) sc_law.nd rfl (Or.inl rfl) (pe_lst pa_nil))
      (pss_cons (ps_set (i := 5) sc_law.nd rfl (Or.inl rfl) pe_int)
      (pss_mid (ps_for PassesOwn.never rfl (pi_range1 (by rfl) T.range (pa_cons (pe_c C.draw hr (by decide) (by rfl) (pa_cons (pv 1) (pa_cons pe_int pa_nil))) pa_nil)) (pg_name (i := 6) sc_law.nd rfl (Or.inl rfl))
        (pss_cons (ps_set (i := 5) sc_law.nd rfl (Or.inl rfl) (pe_op op_add (pe_op op_add (pv 5) pe_int) (pe_c C.draw hr (by decide) (by rfl) (pa_cons (pv 1) (pa_cons pe_int pa_nil)))))
        (pss_cons (ps_dput hu (pv 3) (pv 5) (pe_c C.frame hr (by decide) (by rfl) (pa_cons (pv 1) (pa_cons (pv 2) pa_nil))) rfl)
        (pss_one (ps_expr (pe_bm PySem.F.plainAttrs_list PySem.F.slot_list_append PySem.F.type_list_append mt_append (pv 4) (pa_cons (pv 5) pa_nil)))))))
      (pss_cons (ps_set (i := 7) sc_law.nd rfl (Or.inl rfl) (pe_c C.draw hr (by decide) (by rfl) (pa_cons (pv 1) (pa_cons (pe_op op_add (pe_callB call_len_seq (by rfl) T.len (by decide +kernel) (pa_cons (pv 4) pa_nil)) pe_int) pa_nil))))
      (pss_cons (ps_set (i := 8) sc_law.nd rfl (Or.inl rfl) (pe_slice sl_list (pv 4) po_none (po_some (pv 7))))
      (pss_mid (ps_for PassesOwn.never rfl (pi_range1 (by rfl) T.range (pa_cons (pe_c C.draw hr (by decide) (by rfl) (pa_cons (pv 1) (pa_cons pe_int pa_nil))) pa_nil)) (pg_name (i := 6) sc_law.nd rfl (Or.inl rfl))
        (pss_cons (ps_set (i := 5) sc_law.nd rfl (Or.inl rfl) (pe_op op_add (pe_op op_add (pv 5) pe_int) (pe_c C.draw hr (by decide) (by rfl) (pa_cons (pv 1) (pa_cons pe_int pa_nil)))))
        (pss_cons (ps_dput hu (pv 3) (pv 5) (pe_c C.frame hr (by decide) (by rfl) (pa_cons (pv 1) (pa_cons (pv 2) pa_nil))) rfl)
        (pss_one (ps_expr (pe_bm PySem.F.plainAttrs_list PySem.F.slot_list_append PySem.F.type_list_append mt_append (pv 8) (pa_cons (pv 5) pa_nil)))))))
      (pss_cons (ps_set (i := 9) sc_law.nd rfl (Or.inl rfl) (pe_callTy call_list_of (by rfl) T.list (by decide +kernel) (pa_cons (pv 4) pa_nil)))
      (pss_cons (ps_set (i := 10) sc_law.nd rfl (Or.inl rfl) (pe_c C.cut hr (by decide) (by rfl) (pa_cons (pv 9) (pa_cons (pv 3) pa_nil))))
      (pss_mid (ps_set (i := 11) sc_law.nd rfl (Or.inl rfl) (pe_c C.cut hr (by decide) (by rfl) (pa_cons (pe_tupleOf (by rfl) T.tuple (pv 8)) (pa_cons (pv 3) pa_nil))))
      (pss_mid (ps_if (PW.pt (pw_or (pt_cmpR (op_neD hr.units) (pv 9) (pv 4) (nomark _)) (pw_or (pt_cmpR (op_neD hr.units) (pv 10) (pe_c C.cuts hr (by decide) (by rfl) (pa_cons (pv 4) (pa_cons (pv 3) pa_nil))) (nomark _)) (pw_or1 (pt_cmpR (op_neD hr.units) (pv 11) (pe_c C.cuts hr (by decide) (by rfl) (pa_cons (pv 8) (pa_cons (pv 3) pa_nil))) (nomark _))))))
        (pss_one (ps_ret pe_bl))
        pss_nil)
      (pss_mid (ps_if (PW.pt (pw_or (pt_not (pt_val (pe_callB call_isi (by rfl) T.isinstance (by decide +kernel) (pa_cons (pv 10) (pa_cons (pe_bltn (v := .ty "tuple") (by rfl) T.tuple (by rfl) (show RelV (.ty "tuple") (.type "tuple") from rfl)) pa_nil))))) (pw_or1 (pt_cmpR (op_neD hr.units) (pe_lc (own := [("_law_one", 12)]) rfl sc_law.nd (pi_tup (pv 10)) (blkOk_by (N := N_law) (sc := defScope s_law) (by decide +kernel))
      (fun _ _ _ _ _ => (pg_name (i := 12) sc_law.nd rfl (Or.inl rfl)))
      (fun _ _ _ _ _ => (pts_one (pt_not (pt_val (pe_callB (kc_isi (K := K)) (by rfl) T.isinstance (by decide +kernel) (pa_cons (pv 12) (pa_cons (pe_bltn (v := .ty "tuple") (by rfl) T.tuple (by rfl) (show RelV (.ty "tuple") (.type "tuple") from rfl)) pa_nil)))))))
      (fun _ _ _ _ _ => (pv 12))) (pe_lst pa_nil) (nomark _)))))
        (pss_one (ps_ret pe_bl))
        pss_nil)
      (pss_cons (ps_set (i := 13) sc_law.nd rfl (Or.inl rfl) (pe_lst pa_nil))
      (pss_mid (ps_for PassesOwn.never rfl (pi_tup (pv 10)) (pg_name (i := 12) sc_law.nd rfl (Or.inl rfl))
        (pss_one (ps_set (i := 13) sc_law.nd rfl (Or.inl rfl) (pe_op op_cat (pv 13) (pe_callTy call_list_of (by rfl) T.list (by decide +kernel) (pa_cons (pv 12) pa_nil))))))
      (pss_mid (ps_if (PW.pt (pw_or (pt_cmpR (op_neD hr.units) (pv 13) (pv 4) (nomark _)) (pw_or (pt_cmpR (op_neD hr.units) (pe_c C.cut hr (by decide) (by rfl) (pa_cons (pe_lst pa_nil) (pa_cons (pv 3) pa_nil))) (pe_tup pa_nil) (nomark _)) (pw_or1 (pt_cmpR (op_neD hr.units) (pe_c C.cut hr (by decide) (by rfl) (pa_cons (pe_tupleOf (by rfl) T.tuple (pv 4)) (pa_cons (pv 3) pa_nil))) (pv 10) (nomark _))))))
        (pss_one (ps_ret pe_bl))
        pss_nil)
      (pss_cons (ps_set (i := 14) sc_law.nd rfl (Or.inl rfl) pe_int)
      (pss_cons (ps_for PassesOwn.never rfl (RZ.pi_zipA (by rfl) T.zip (pa_cons (pv 10) (pa_cons (pv 11) pa_nil))) (pg_tup (by rfl) (pgs_cons (pg_name (i := 12) sc_law.nd rfl (Or.inl rfl)) (pgs_cons (pg_name (i := 15) sc_law.nd rfl (Or.inl rfl)) pgs_nil)))
        (pss_mid (ps_set (i := 16) sc_law.nd rfl (Or.inl rfl) (pe_or (pe_cmpR op_eq (pe_callB call_len_seq (by rfl) T.len (by decide +kernel) (pa_cons (pv 12) pa_nil)) pe_int (nomark _)) (pe_one (pe_cmpR op_ne (pe_ix ix_tup (pe_dget hu (pv 3) (pe_ix ix_tup (pv 12) pe_int (fun _ _ => rfl)) (fun _ _ => rfl)) pe_int (fun _ _ => rfl)) pe_str (nomark _)))))
        (pss_cons (ps_set (i := 14) sc_law.nd rfl (Or.inl rfl) (pe_op op_add (pv 14) (pe_callB call_len_seq (by rfl) T.len (by decide +kernel) (pa_cons (pv 12) pa_nil))))
        (pss_one (ps_if (PW.pt (pw_and (pt_cmpR op_le (pv 14) (pv 7) (nomark _)) (pw_and (pt_val (pv 16)) (pw_and1 (pt_cmpR (op_neD hr.units) (pv 12) (pv 15) (nomark _))))))
          (pss_one (ps_ret pe_bl))
          pss_nil)))))
      (pss_one (ps_ret pe_bl))))))))))))))))))))), ?_⟩
    refine ⟨_, rfl, a, ns, rfl, hS, hlen, fun h c H1 s1 _ _ hh1 => ?_⟩
    refine ⟨_, rfl, h, c, _, rfl, hh1, by decide, by decide, fun n2 H2 _ _ _ hh2 => ?_⟩
    refine ⟨rfl, fun d hd => ?_⟩
    have hh3 := hh2.same (same_new (o := .dK []) hd)
    refine ⟨by show 0 ≤ sizeLine; decide, fun F hF => ?_⟩
    have hh4 := hh3.same (same_new (o := .lst []) hF)
    have dF : d ≠ F := fun e => by rw [← e, upd_same] at hF; cases hF
    have hF4 := hh3.there hF
    refine ⟨fun σ' H' => ∃ (wb : Bool) (bi : Int) (v6 : Option V) (wd : Int → Option Str) (n : Nat) (fs : List Int), σ' = [some (.ref a), some (.ref h), some (.bl wb), some (.ref d), some (.ref F), some (.int bi), v6, none, none, none, none, none, none, none, none, none, none] ∧
      Hand H' h c ∧ Wd K H' d wd n ∧ n ≤ 50 ∧ H' F = some (.lst (fs.map V.int)) ∧ fs.length ≤ 40 ∧ ∀ b ∈ fs, ∃ w, wd b = some w, ?_, ?_⟩
    · refine ⟨_, rfl, h, c, _, rfl, hh4, by decide, by decide, fun m H5 m0 m1 k5 hh5 => ?_⟩
      have hd5 : H5 d = some (.dK []) := k5.st _ _ (fun e => by
        obtain ⟨xs, e2⟩ := hh4.lst
        rw [← e, upd_ne dF, upd_same] at e2
        cases e2) (by rw [upd_ne dF]; exact upd_same)
      have hF5 : H5 F = some (.lst []) := k5.st _ _ hF4.1 upd_same
      refine ⟨m, rfl, by omega, by omega, ?_⟩
      refine for_it (walk_range (lo := 0) (n := m.toNat)) (fun i σ' H' => ∃ (bi : Int) (v6 : Option V) (wd : Int → Option Str) (fs : List Int), σ' = [some (.ref a), some (.ref h), some (.bl (decide (V.int n2 = V.int 0))), some (.ref d), some (.ref F), some (.int bi), v6, none, none, none, none, none, none, none, none, none, none] ∧
        Hand H' h c ∧ Wd K H' d wd i ∧ H' F = some (.lst (fs.map V.int)) ∧ fs.length = i ∧ ∀ b ∈ fs, ∃ w, wd b = some w) ⟨0, none, fun _ => none, [], rfl, hh5, Wd.nil hd5, hF5, rfl, fun _ h => (by cases h)⟩ (fun _ _ _ _ _ => trivial) ?_ ?_
      · rintro i x σ H6 H7 hi ⟨bi, v6, wd, fs, rfl, hh6, hd6, hF6, hl, hin⟩ ⟨rfl, rfl⟩
        have hi41 : i < 41 := by omega
        refine ⟨_, rfl, _, _, rfl, rfl, _, rfl, h, c, _, rfl, hh6, by decide, by decide, fun n3 H8 _ _ k8 hh8 => ?_⟩
        refine ⟨_, _, rfl, rfl, ?_⟩
        refine ⟨_, rfl, _, rfl, h, c, _, rfl, hh8, fun t w0 rest H9 k9 hh9 ht hw0 => ?_⟩
        have k69 := k8.trans k9
        have hF9 : H9 F = some (.lst (fs.map V.int)) := k69.st _ _ hF4.1 hF6
        obtain ⟨H10, g1, g2, g3⟩ := (hd6.kp k69).put (b := bi + 1 + n3) (Nat.lt_trans hi41 (by decide)) ht hw0
        have nd : d ≠ h ∧ d ≠ c := by
          obtain ⟨kvs, e, _⟩ := (hd6.kp k69).ex
          obtain ⟨cells, i0, b0, t0, e1, e2, _⟩ := hh9
          exact ⟨ne_of e e1 (by intro z; cases z), ne_of e e2 (by intro z; cases z)⟩
        have hh10 : Hand H10 h c := by
          obtain ⟨cells, i0, b0, t0, e1, e2, q⟩ := hh9
          exact ⟨cells, i0, b0, t0, by rw [g3 _ nd.1.symm]; exact e1, by rw [g3 _ nd.2.symm]; exact e2, q⟩
        have hF10 : H10 F = some (.lst (fs.map V.int)) := by rw [g3 _ dF.symm]; exact hF9
        refine ⟨_, rfl, _, rfl, d, H10, rfl, g1, ?_⟩
        refine ⟨_, rfl, .inl ⟨rfl, _, .inl (.inl hF10)⟩, _, rfl, F, _, _, rfl, rfl, hF10, ?_, ?_⟩
        · rw [List.length_map, hl]
          exact Nat.lt_trans hi41 (by decide)
        refine ⟨_, _, _, fs ++ [bi + 1 + n3], rfl, hh10.puts hF4.1 hF4.2, g2.lst hF10, ?_, ?_, ?_⟩
        · rw [upd_same, List.map_append]
          rfl
        · rw [List.length_append, hl]
          rfl
        · intro b hb
          by_cases e : b = bi + 1 + n3
          · exact ⟨w0, if_pos e⟩
          · rcases List.mem_append.mp hb with hb | hb
            · obtain ⟨w1, e1⟩ := hin b hb
              exact ⟨w1, by rw [if_neg e]; exact e1⟩
            · exact absurd (List.mem_singleton.mp hb) e
      · rintro σ H6 ⟨bi, v6, wd, fs, rfl, hh6, hd6, hF6, hl, hin⟩
        exact ⟨_, bi, v6, wd, _, fs, rfl, hh6, hd6, by omega, hF6, by omega, hin⟩
    clear hh4
    rintro σ5 H5 ⟨wb, bi, v6, wd, n, fs, rfl, hh5, hd5, hn5, hF5, hl5, hin5⟩
    refine ⟨_, rfl, _, rfl, F, _, rfl, .inl (.inl (.inl hF5)), _, _, rfl, rfl, h, c, _, rfl, hh5, ?_, ?_, fun m H6 m0 m1 k6 hh6 => ?_⟩
    · rw [List.length_map]
      omega
    · rw [List.length_map]
      exact Int.lt_of_le_of_lt (show (fs.length : Int) + 1 ≤ 41 by omega) (by decide)
    rw [List.length_map] at m1
    obtain ⟨cm, rfl⟩ : ∃ j : Nat, m = (j : Int) := ⟨m.toNat, by omega⟩
    have hF6 : H6 F = some (.lst (fs.map V.int)) := k6.st _ _ hF4.1 hF5
    have hd6 := hd5.kp k6
    refine ⟨_, rfl, _, rfl, _, rfl, F, _, rfl, .inl (.inl hF6), fun S hS6 => ?_⟩
    rw [cut_to (by rw [List.length_map]; omega), ← List.map_take]
    have hh7 := hh6.same (same_new (o := .lst ((fs.take cm).map V.int)) hS6)
    have hd7 := hd6.same (same_new (o := .lst ((fs.take cm).map V.int)) hS6)
    have hF7 : (upd H6 S (.lst ((fs.take cm).map V.int))) F = some (.lst (fs.map V.int)) := (same_new hS6) _ _ hF6
    have hS7 : (upd H6 S (.lst ((fs.take cm).map V.int))) S = some (.lst ((fs.take cm).map V.int)) := upd_same
    have nS := hh6.there hS6
    have nSF : S ≠ F := (ne_of_none hF6 hS6).symm
    generalize upd H6 S (.lst ((fs.take cm).map V.int)) = H7 at *
    refine ⟨fun σ' H' => ∃ (bi : Int) (v6 : Option V) (wd : Int → Option Str) (n : Nat) (p r1 r2 : List Int), σ' = [some (.ref a), some (.ref h), some (.bl wb), some (.ref d), some (.ref F), some (.int bi), v6, some (.int (p.length : Nat)), some (.ref S), none, none, none, none, none, none, none, none] ∧
      Rows K H' d F S wd n p r1 r2, ?_, ?_⟩
    · refine ⟨_, rfl, h, c, _, rfl, hh7, by decide, by decide, fun m H8 m0 m1 k8 hh8 => ?_⟩
      refine ⟨m, rfl, by omega, by omega, ?_⟩
      refine for_it (walk_range (lo := 0) (n := m.toNat)) (fun i σ' H' => ∃ (bi : Int) (v6 : Option V) (wd : Int → Option Str) (gs : List Int), σ' = [some (.ref a), some (.ref h), some (.bl wb), some (.ref d), some (.ref F), some (.int bi), v6, some (.int (cm : Nat)), some (.ref S), none, none, none, none, none, none, none, none] ∧
        Hand H' h c ∧ Wd K H' d wd (n + i) ∧ H' F = some (.lst (fs.map V.int)) ∧ H' S = some (.lst ((fs.take cm ++ gs).map V.int)) ∧ gs.length = i ∧ (∀ b ∈ fs, ∃ w, wd b = some w) ∧ ∀ b ∈ gs, ∃ w, wd b = some w)
        ⟨bi, v6, wd, [], rfl, hh8, hd7.kp k8, k8.st _ _ hF4.1 hF7, by rw [List.append_nil]; exact k8.st _ _ nS.1 hS7, rfl, hin5, fun _ h => (by cases h)⟩ (fun _ _ _ _ _ => trivial) ?_ ?_
      · rintro i x σ H9 H9' hi ⟨bi, v6, wd, gs, rfl, hh9, hd9, hF9, hS9, hl, hin, hig⟩ ⟨rfl, rfl⟩
        have hi9 : i < 9 := by omega
        refine ⟨_, rfl, _, _, rfl, rfl, _, rfl, h, c, _, rfl, hh9, by decide, by decide, fun n3 H10 _ _ k10 hh10 => ?_⟩
        refine ⟨_, _, rfl, rfl, ?_⟩
        refine ⟨_, rfl, _, rfl, h, c, _, rfl, hh10, fun t w0 rest H11 k11 hh11 ht hw0 => ?_⟩
        have k911 := k10.trans k11
        have hF11 : H11 F = some (.lst (fs.map V.int)) := k911.st _ _ hF4.1 hF9
        have hS11 : H11 S = some (.lst ((fs.take cm ++ gs).map V.int)) := k911.st _ _ nS.1 hS9
        obtain ⟨H12, g1, g2, g3⟩ := (hd9.kp k911).put (b := bi + 1 + n3) (show n + i < 1000 by omega) ht hw0
        have nd : d ≠ h ∧ d ≠ c ∧ d ≠ S := by
          obtain ⟨kvs, e, _⟩ := (hd9.kp k911).ex
          obtain ⟨cells, i0, b0, t0, e1, e2, _⟩ := hh11
          exact ⟨ne_of e e1 (by intro z; cases z), ne_of e e2 (by intro z; cases z), ne_of e hS11 (by intro z; cases z)⟩
        have hh12 : Hand H12 h c := by
          obtain ⟨cells, i0, b0, t0, e1, e2, q⟩ := hh11
          exact ⟨cells, i0, b0, t0, by rw [g3 _ nd.1.symm]; exact e1, by rw [g3 _ nd.2.1.symm]; exact e2, q⟩
        have hF12 : H12 F = some (.lst (fs.map V.int)) := by rw [g3 _ dF.symm]; exact hF11
        have hS12 : H12 S = some (.lst ((fs.take cm ++ gs).map V.int)) := by rw [g3 _ nd.2.2.symm]; exact hS11
        refine ⟨_, rfl, _, rfl, d, H12, rfl, g1, ?_⟩
        refine ⟨_, rfl, .inl ⟨rfl, _, .inl (.inl hS12)⟩, _, rfl, S, _, _, rfl, rfl, hS12, ?_, ?_⟩
        · rw [List.length_map, List.length_append, List.length_take, hl]
          exact Nat.lt_of_le_of_lt (show min cm fs.length + i ≤ 100 by omega) (by decide)
        refine ⟨_, _, _, gs ++ [bi + 1 + n3], rfl, hh12.puts nS.1 nS.2, g2.lst hS12, ?_, ?_, ?_, ?_, ?_⟩
        · rw [upd_ne nSF.symm]
          exact hF12
        · rw [upd_same, ← List.append_assoc, List.map_append (l₂ := [bi + 1 + n3])]
          rfl
        · rw [List.length_append, hl]
          rfl
        · intro b hb
          by_cases e : b = bi + 1 + n3
          · exact ⟨w0, if_pos e⟩
          · obtain ⟨w1, e1⟩ := hin b hb
            exact ⟨w1, by rw [if_neg e]; exact e1⟩
        · intro b hb
          by_cases e : b = bi + 1 + n3
          · exact ⟨w0, if_pos e⟩
          · rcases List.mem_append.mp hb with hb | hb
            · obtain ⟨w1, e1⟩ := hig b hb
              exact ⟨w1, by rw [if_neg e]; exact e1⟩
            · exact absurd (List.mem_singleton.mp hb) e
      · rintro σ H9 ⟨bi, v6, wd, gs, rfl, hh9, hd9, hF9, hS9, hl, hin, hig⟩
        have et : fs.take cm ++ fs.drop cm = fs := List.take_append_drop cm fs
        refine ⟨bi, v6, wd, _, fs.take cm, fs.drop cm, gs, ?_, hd9, by rw [et]; exact hF9, hS9, by rw [et]; exact hin, fun b hb => ?_, by rw [et]; omega, by rw [List.length_append, List.length_take, hl]; omega⟩
        · rw [List.length_take, Nat.min_eq_left (by omega)]
        · rcases List.mem_append.mp hb with hb | hb
          · exact hin b (List.mem_of_mem_take hb)
          · exact hig b hb
    clear hF7 hS7 hd7 hh7 hd6 hh6 hF6 hS6 k6
    rintro σ8 H8 ⟨bi, v6, wd, n, p, r1, r2, rfl, R⟩
    have hSq : SqL K H8 F ((p ++ r1).map V.int) := .inl (.inl R.fi)
    refine ⟨_, rfl, F, _, rfl, .inl hSq, fun G hG => ?_⟩
    have R9 := R.same (same_new (o := .lst ((p ++ r1).map V.int)) hG)
    have hG9 : (upd H8 G (.lst ((p ++ r1).map V.int))) G = some (.lst ((p ++ r1).map V.int)) := upd_same
    refine ⟨_, rfl, _, rfl, G, d, _, wd, n, rfl, .inl (.inl (.inl hG9)), R9.th, R9.in1, Nat.le_trans R9.l1 (by decide), fun t1 acc1 H10 s10 q1 q2 => ?_⟩
    refine ⟨fun σ' H' => ∃ (t2 : Addr) (acc2 : List V), σ' = [some (.ref a), some (.ref h), some (.bl wb), some (.ref d), some (.ref F), some (.int bi), v6, some (.int (p.length : Nat)), some (.ref S), some (.ref G), some (.ref t1), some (.ref t2), none, none, none, none, none] ∧
      Told K H' d F S G t1 t2 acc1 acc2 wd n p r1 r2, ?_, ?_⟩
    · have R10 := R9.same s10
      refine ⟨_, rfl, .inl ⟨S, _, rfl, .inl (.inl R10.se), fun t ht => ?_⟩⟩
      have s11 := same_new (o := .tup ((p ++ r2).map V.int)) ht
      have R11 := R10.same s11
      refine ⟨_, rfl, t, d, _, wd, n, rfl, .inr (.inl (.inl upd_same)), R11.th, R11.in2, Nat.le_trans R11.l2 (by decide), fun t2 acc2 H12 s12 q3 q4 => ?_⟩
      exact ⟨t2, acc2, rfl, R11.same s12, s12 _ _ (s11 _ _ (s10 _ _ hG9)), sqt_same (s11.trans s12) q1, dps_same (s11.trans s12) _ _ q2, q3, q4⟩
    rintro σ9 H9 ⟨t2, acc2, rfl, X⟩
    clear s10 q1 q2 R9 hG9 hSq R
    refine ⟨fun σ' H' => σ' = [some (.ref a), some (.ref h), some (.bl wb), some (.ref d), some (.ref F), some (.int bi), v6, some (.int (p.length : Nat)), some (.ref S), some (.ref G), some (.ref t1), some (.ref t2), none, none, none, none, none] ∧
      Told K H' d F S G t1 t2 acc1 acc2 wd n p r1 r2, ?_, ?_⟩
    · refine ⟨_, rfl, _, rfl, _, _, .lst (.inl (.inl X.g)) (dpAll_ints _), .lst (.inl (.inl X.r.fi)) (dpAll_ints _), PySem.W.shaped_ints _, PySem.W.shaped_ints _, _, rfl, ?_⟩
      rw [ne_same' (PySem.W.shaped_ints _)]
      refine iteF ?_
      refine ⟨_, rfl, _, rfl, _, rfl, F, d, _, wd, n, rfl, .inl (.inl (.inl X.r.fi)), X.r.th, X.r.in1, Nat.le_trans X.r.l1 (by decide), fun t3 acc3 H10 s10 q1 q2 => ?_⟩
      have X10 := X.same s10
      refine ⟨_, _, .tup X10.s1 X10.d1, .tup q1 q2, sh_blk _, sh_blk _, _, rfl, ?_⟩
      rw [ne_same' (sh_blk _)]
      refine iteF ?_
      refine ⟨_, rfl, _, rfl, _, rfl, S, d, _, wd, n, rfl, .inl (.inl (.inl X10.r.se)), X10.r.th, X10.r.in2, Nat.le_trans X10.r.l2 (by decide), fun t4 acc4 H11 s11 q3 q4 => ?_⟩
      have X11 := X10.same s11
      refine ⟨_, _, .tup X11.s2 X11.d2, .tup q3 q4, sh_blk _, sh_blk _, _, rfl, ?_⟩
      rw [ne_same' (sh_blk _)]
      exact iteF ⟨rfl, X11⟩
    clear X
    rintro σ10 H10 ⟨rfl, X⟩
    refine ⟨fun σ' H' => σ' = [some (.ref a), some (.ref h), some (.bl wb), some (.ref d), some (.ref F), some (.int bi), v6, some (.int (p.length : Nat)), some (.ref S), some (.ref G), some (.ref t1), some (.ref t2), none, none, none, none, none] ∧
      Told K H' d F S G t1 t2 acc1 acc2 wd n p r1 r2, ?_, ?_⟩
    · refine ⟨_, rfl, .ref t1, .ty "tuple", _, _, true, rfl, .ty _, tyx_tup X.s1, kit_tup, _, rfl, ?_⟩
      refine iteF ?_
      refine ⟨_, rfl, t1, rfl, ⟨_, X.s1⟩, fun L hL => ?_⟩
      have hla : acc1.length ≤ 200 := by
        have h1 := DpAll.len X.d1
        rw [List.length_map] at h1
        have := blk_len (cutf wd) (p ++ r1)
        have := X.r.l1
        omega
      refine lc_data (K := K) (walk_tup (xs := acc1)) (fun i => none) hL (by omega) (fun H' s1 => sqt_same s1 X.s1) (fun i _ z e => (by cases e)) ?_ ?_
      · rintro i x H2 H3 hi s2 ⟨rfl, e2⟩ Q1 Q0 q1 q0
        obtain ⟨y, ey, hy⟩ := DpAll.atV X.d1 e2
        obtain ⟨z, ez, rfl⟩ := map_at ey
        obtain ⟨tz, rfl, hz⟩ := dp_tupI_inv (dp_same s2 _ _ hy)
        refine ⟨rfl, ?_⟩
        refine ⟨_, rfl, .ref tz, .ty "tuple", _, _, true, rfl, .ty _, tyx_tup hz, kit_tup, _, rfl, ?_⟩
        exact iteF (q0 _ rfl (Same.refl _))
      · intro H2 acc s2 hacc ha2
        have e0 : (List.range acc1.length).filterMap (fun _ => (none : Option PyData)) = [] := by
          induction List.range acc1.length with
          | nil => rfl
          | cons x r ih => rw [List.filterMap_cons]; exact ih
        rw [e0] at ha2
        cases ha2
        refine ⟨by show 0 ≤ sizeLine; decide, fun L2 hL2 => ?_⟩
        refine ⟨_, _, .lst (.inl (.inl ((same_new hL2) _ _ hacc))) .nil, .lst (.inl (.inl upd_same)) .nil, by decide +kernel, by decide +kernel, _, rfl, ?_⟩
        exact iteF ⟨rfl, X.same (s2.trans (same_new hL2))⟩
    clear X
    rintro σ11 H11 ⟨rfl, X⟩
    have hl1 : acc1.length = (blk (cutf wd) (p ++ r1)).length := by
      have h1 := DpAll.len X.d1
      rwa [List.length_map] at h1
    have hl2 : acc2.length = (blk (cutf wd) (p ++ r2)).length := by
      have h1 := DpAll.len X.d2
      rwa [List.length_map] at h1
    refine ⟨by show 0 ≤ sizeLine; decide, fun J0 hJ0 => ?_⟩
    have X12 := X.same (same_new (o := .lst []) hJ0)
    have hJ12 : (upd H11 J0 (.lst [])) J0 = some (.lst []) := upd_same
    generalize upd H11 J0 (.lst []) = H12 at *
    refine ⟨fun σ' H' => ∃ (J : Addr) (v12 : Option V), σ' = [some (.ref a), some (.ref h), some (.bl wb), some (.ref d), some (.ref F), some (.int bi), v6, some (.int (p.length : Nat)), some (.ref S), some (.ref G), some (.ref t1), some (.ref t2), v12, some (.ref J), none, none, none] ∧
      Told K H' d F S G t1 t2 acc1 acc2 wd n p r1 r2 ∧ H' J = some (.lst ((p ++ r1).map V.int)), ?_, ?_⟩
    · refine ⟨_, rfl, t1, rfl, ⟨_, X12.s1⟩, ?_⟩
      refine for_it (walk_tup (xs := acc1)) (fun i σ' H' => ∃ (J : Addr) (v12 : Option V), σ' = [some (.ref a), some (.ref h), some (.bl wb), some (.ref d), some (.ref F), some (.int bi), v6, some (.int (p.length : Nat)), some (.ref S), some (.ref G), some (.ref t1), some (.ref t2), v12, some (.ref J), none, none, none] ∧
        Told K H' d F S G t1 t2 acc1 acc2 wd n p r1 r2 ∧ H' J = some (.lst (((blk (cutf wd) (p ++ r1)).take i).flatten.map V.int))) ⟨J0, none, rfl, X12, hJ12⟩ (fun i σ H' _ z => ?_) ?_ ?_
      · obtain ⟨_, _, _, z, _⟩ := z
        exact z.s1
      · rintro i x σ H13 H14 hi ⟨J, v12, rfl, X13, hJ⟩ ⟨rfl, e2⟩
        obtain ⟨y, ey, hy⟩ := DpAll.atV X13.d1 e2
        obtain ⟨z, ez, rfl⟩ := map_at ey
        obtain ⟨tz, rfl, hz⟩ := dp_tupI_inv hy
        have et : ((blk (cutf wd) (p ++ r1)).take (i + 1)).flatten = ((blk (cutf wd) (p ++ r1)).take i).flatten ++ z := by
          rw [List.take_add_one, ez, List.flatten_append]
          simp
        have hle : ((blk (cutf wd) (p ++ r1)).take (i + 1)).flatten.length ≤ 100 := by
          have e : (blk (cutf wd) (p ++ r1)).flatten.length = (p ++ r1).length := by rw [blk_flat]
          rw [← List.take_append_drop (i + 1) (blk (cutf wd) (p ++ r1)), List.flatten_append, List.length_append] at e
          have := X13.r.l1
          omega
        rw [et] at hle ⊢
        refine ⟨_, rfl, _, rfl, tz, _, rfl, .inr hz, fun l hl => ?_⟩
        have s14 := same_new (o := .lst (z.map V.int)) hl
        have hJ14 := s14 _ _ hJ
        have X14 := X13.same s14
        refine ⟨J, l, _, _, rfl, rfl, hJ14, upd_same, ?_, fun q hq => ?_⟩
        · rw [List.length_map, List.length_map, ← List.length_append]
          exact Nat.le_trans hle (by decide)
        refine ⟨q, _, rfl, X14.same (same_new hq), ?_⟩
        rw [upd_same, List.map_append]
      · rintro σ H13 ⟨J, v12, rfl, X13, hJ⟩
        rw [hl1, List.take_length, blk_flat] at hJ
        exact ⟨J, v12, rfl, X13, hJ⟩
    clear X X12 hJ12
    rintro σ13 H13 ⟨J, v12, rfl, X, hJ⟩
    refine ⟨fun σ' H' => σ' = [some (.ref a), some (.ref h), some (.bl wb), some (.ref d), some (.ref F), some (.int bi), v6, some (.int (p.length : Nat)), some (.ref S), some (.ref G), some (.ref t1), some (.ref t2), v12, some (.ref J), none, none, none] ∧
      Told K H' d F S G t1 t2 acc1 acc2 wd n p r1 r2, ?_, ?_⟩
    · refine ⟨_, rfl, _, rfl, _, _, .lst (.inl (.inl hJ)) (dpAll_ints _), .lst (.inl (.inl X.r.fi)) (dpAll_ints _), PySem.W.shaped_ints _, PySem.W.shaped_ints _, _, rfl, ?_⟩
      rw [ne_same' (PySem.W.shaped_ints _)]
      refine iteF ?_
      refine ⟨by show 0 ≤ sizeLine; decide, fun L hL => ?_⟩
      have X14 := X.same (same_new (o := .lst []) hL)
      refine ⟨_, rfl, L, d, [], wd, n, rfl, .inl (.inl (.inl upd_same)), X14.r.th, fun _ h => (by cases h), by decide, fun t3 acc3 H15 s15 q1 q2 => ?_⟩
      have X15 := X14.same s15
      cases q2
      refine ⟨by show 0 ≤ sizeLine; decide, fun L2 hL2 => ?_⟩
      have s16 := same_new (o := .tup []) hL2
      have X16 := X15.same s16
      refine ⟨_, _, .tup (sqt_same s16 q1) .nil, .tup (.inl (.inl upd_same)) .nil, by decide +kernel, by decide +kernel, _, rfl, ?_⟩
      refine iteF ?_
      refine ⟨_, rfl, .inl ⟨F, _, rfl, .inl (.inl X16.r.fi), fun t5 ht5 => ?_⟩⟩
      have X17 := X16.same (same_new (o := .tup ((p ++ r1).map V.int)) ht5)
      refine ⟨_, rfl, t5, d, _, wd, n, rfl, .inr (.inl (.inl upd_same)), X17.r.th, X17.r.in1, Nat.le_trans X17.r.l1 (by decide), fun t6 acc6 H18 s18 q3 q4 => ?_⟩
      have X18 := X17.same s18
      refine ⟨_, rfl, _, _, .tup q3 q4, .tup X18.s1 X18.d1, sh_blk _, sh_blk _, _, rfl, ?_⟩
      rw [ne_same' (sh_blk _)]
      exact iteF ⟨rfl, X18⟩
    clear X hJ
    rintro σ14 H14 ⟨rfl, X⟩
    refine ⟨_, rfl, _, rfl, t1, t2, acc1, acc2, rfl, .inr ⟨X.s1, X.s2, ?_⟩⟩
    refine for_it (walk_zipT (xs := acc1) (ys := acc2) rfl) (fun i σ' H' => ∃ (v12 v15 v16 : Option V), σ' = [some (.ref a), some (.ref h), some (.bl wb), some (.ref d), some (.ref F), some (.int bi), v6, some (.int (p.length : Nat)), some (.ref S), some (.ref G), some (.ref t1), some (.ref t2), v12, some (.ref J),
        some (.int ((((blk (cutf wd) (p ++ r1)).take i).flatten.length : Nat))), v15, v16] ∧ Told K H' d F S G t1 t2 acc1 acc2 wd n p r1 r2) ⟨v12, none, none, rfl, X⟩ (fun i σ H' _ z => ?_) ?_ ?_
    · obtain ⟨_, _, _, _, z⟩ := z
      exact ⟨z.s1, z.s2⟩
    · rintro i v σ H15 H16 hi ⟨v12, v15, v16, rfl, X⟩ ⟨T1, x1, x2, rfl, hT, rfl, e1, e2⟩
      have X16 := X.same (same_new (o := .tup [x1, x2]) hT)
      obtain ⟨y1, ey1, hy1⟩ := DpAll.atV X16.d1 e1
      obtain ⟨z1, ez1, rfl⟩ := map_at ey1
      obtain ⟨u1, rfl, hz1⟩ := dp_tupI_inv hy1
      obtain ⟨y2, ey2, hy2⟩ := DpAll.atV X16.d2 e2
      obtain ⟨z2, ez2, rfl⟩ := map_at ey2
      obtain ⟨u2, rfl, hz2⟩ := dp_tupI_inv hy2
      refine ⟨T1, _, rfl, .inl (.inl upd_same), rfl, _, _, rfl, _, _, rfl, rfl, ?_⟩
      generalize upd H15 T1 (.tup [.ref u1, .ref u2]) = H16 at *
      have hz1m : z1 ∈ blk (cutf wd) (p ++ r1) := List.mem_of_getElem? ez1
      obtain ⟨b, r, rfl⟩ : ∃ b r, z1 = b :: r := by
        cases z1 with
        | nil => exact absurd rfl (blk_ne _ _ _ hz1m).1
        | cons b r => exact ⟨b, r, rfl⟩
      have hbm : b ∈ p ++ r1 := by
        rw [← blk_flat (cutf wd) (p ++ r1)]
        exact List.mem_flatten.mpr ⟨_, hz1m, List.mem_cons_self⟩
      obtain ⟨wb1, ewb⟩ := X16.r.in1 b hbm
      obtain ⟨t, rest, g1, g2⟩ := X16.r.th.get ewb
      have ew := (cut_word ewb (X16.r.th.ok b wb1 ewb)).2
      have hat : atI (V.str wb1 :: rest) 0 = some (V.str wb1) := atI_nat (j := 0) rfl
      have et : ((blk (cutf wd) (p ++ r1)).take (i + 1)).flatten = ((blk (cutf wd) (p ++ r1)).take i).flatten ++ (b :: r) := by
        rw [List.take_add_one, ez1, List.flatten_append]
        simp
      refine ⟨fun σ' H' => ∃ cl : Bool, σ' = [some (.ref a), some (.ref h), some (.bl wb), some (.ref d), some (.ref F), some (.int bi), v6, some (.int (p.length : Nat)), some (.ref S), some (.ref G), some (.ref t1), some (.ref t2), some (.ref u1), some (.ref J),
          some (.int ((((blk (cutf wd) (p ++ r1)).take i).flatten.length : Nat))), some (.ref u2), some (.bl cl)] ∧ H' = H16 ∧ (cl = true → (b :: r).length = 4 ∨ cutf wd b = true), ?_, ?_⟩
      · refine ⟨_, rfl, u1, _, rfl, .inr hz1, rfl, _, rfl, ?_⟩
        refine ite2 (fun q => ⟨true, rfl, rfl, fun _ => .inl ?_⟩) (fun _ => ?_)
        · have := V.int.inj (of_decide_eq_true q)
          rw [List.length_map] at this
          omega
        refine ⟨_, rfl, _, rfl, u1, _, _, _, rfl, rfl, hz1, atI_nat (j := 0) rfl, d, _, rfl, g1, t, _, _, _, rfl, rfl, g2, hat, rfl, ?_⟩
        rw [ew, Bool.not_not]
        exact ⟨cutf wd b, rfl, rfl, .inr⟩
      · rintro σ' H' ⟨cl, rfl, rfl, hcl⟩
        refine ⟨_, rfl, _, rfl, u1, _, rfl, .inr hz1, _, _, rfl, rfl, ?_⟩
        rw [List.length_map]
        have el : ((((blk (cutf wd) (p ++ r1)).take i).flatten.length : Nat) : Int) + (((b :: r).length : Nat) : Int) = ((((blk (cutf wd) (p ++ r1)).take (i + 1)).flatten.length : Nat) : Int) := by
          rw [et, List.length_append]
          omega
        show gName 14 (V.int (((((blk (cutf wd) (p ++ r1)).take i).flatten.length : Nat) : Int) + (((b :: r).length : Nat) : Int))) _ _ _
        rw [el]
        refine ⟨_, rfl, _, rfl, _, _, rfl, rfl, _, rfl, ?_⟩
        have go : ∃ (v12 v15 v16 : Option V), [some (V.ref a), some (.ref h), some (.bl wb), some (.ref d), some (.ref F), some (.int bi), v6, some (.int (p.length : Nat)), some (.ref S), some (.ref G), some (.ref t1), some (.ref t2), some (.ref u1), some (.ref J),
            some (.int ((((blk (cutf wd) (p ++ r1)).take (i + 1)).flatten.length : Nat))), some (.ref u2), some (.bl cl)] = [some (.ref a), some (.ref h), some (.bl wb), some (.ref d), some (.ref F), some (.int bi), v6, some (.int (p.length : Nat)), some (.ref S), some (.ref G), some (.ref t1), some (.ref t2), v12, some (.ref J),
            some (.int ((((blk (cutf wd) (p ++ r1)).take (i + 1)).flatten.length : Nat))), v15, v16] ∧ Told K H' d F S G t1 t2 acc1 acc2 wd n p r1 r2 := ⟨_, _, _, rfl, X16⟩
        refine ite2 (fun q1 => ?_) (fun _ => go)
        refine ⟨_, rfl, cl, rfl, ?_⟩
        refine ite2 (fun q2 => ?_) (fun _ => go)
        have ee : b :: r = z2 := same_blocks ez1 ez2 (by have := of_decide_eq_true q1; omega) ((hcl q2).imp id fun q => ⟨b, r, rfl, q⟩)
        subst ee
        refine ⟨_, rfl, _, rfl, _, _, hy1, hy2, sh_tupI _, sh_tupI _, _, rfl, ?_⟩
        rw [ne_same' (sh_tupI _)]
        exact iteF go
    · rintro σ H15 ⟨v12, v15, v16, rfl, X⟩
      exact k _
end
end K24

namespace K24
open PySem L2 Cm
theorem at_mk {K : PySem.W.Frag} {h : Heap} {mg : Str → Option Value} {x : Str} {st : Stmt} {ps : List Str} {f : Addr} {oc : Value} {od an : Option Addr} {osl : Array (Option Value)} {kV doc pm cdv ct : Value} (X : K.In h) (G : h.Ns mainGlobals mg)
    (a : PySem.W.nsIn K mainGlobals x = some (some (.ref f))) (l : K.lookup f = some ⟨oc, od, .func (PySem.W.fnOf x x (defArgs st) (defBody st) (defScope st) .none kV doc pm an cdv ct), osl⟩) (c : PySem.W.codeIn K cdv x = true) (k : PySem.W.keepIn K (.ref f) = true)
    (b : ∀ (kV doc pm : Value) (an : Option Addr) (cdv ct : Value) (us : List Value), us.length = ps.length → bindArgs (PySem.W.fnOf x x (defArgs st) (defBody st) (defScope st) .none kV doc pm an cdv ct) ⟨us, []⟩ = pure (ps.zip us)) : At K mg x st ps :=
  ⟨_, _, fun_mk l c k, PySem.W.mg_of X G a, (fun_mk l c k).binds b⟩
theorem all_mk {l : PySem.W.OpenLaw} {w : World} {K : PySem.W.Frag} {h : Heap} {mg : Str → Option Value} {fa f0 f1 f2 f3 f4 f5 f6 f7 : Addr} (X : K.In h) (G : h.Ns mainGlobals mg) (hfa : mg "law" = some (.ref fa))
    {od0 an0 : Option Addr} {sl0 : Array (Option Value)} {oc0 kV0 dc0 pm0 cd0 ct0 : Value} (a0 : PySem.W.nsIn K mainGlobals "_law_mix" = some (some (.ref f0))) (l0 : K.lookup f0 = some ⟨oc0, od0, .func (PySem.W.fnOf "_law_mix" "_law_mix" (defArgs s_l_mix) (defBody s_l_mix) (defScope s_l_mix) .none kV0 dc0 pm0 an0 cd0 ct0), sl0⟩) (c0 : PySem.W.codeIn K cd0 "_law_mix" = true) (k0 : PySem.W.keepIn K (.ref f0) = true)
    {od1 an1 : Option Addr} {sl1 : Array (Option Value)} {oc1 kV1 dc1 pm1 cd1 ct1 : Value} (a1 : PySem.W.nsIn K mainGlobals "_law_hand" = some (some (.ref f1))) (l1 : K.lookup f1 = some ⟨oc1, od1, .func (PySem.W.fnOf "_law_hand" "_law_hand" (defArgs s_l_hand) (defBody s_l_hand) (defScope s_l_hand) .none kV1 dc1 pm1 an1 cd1 ct1), sl1⟩) (c1 : PySem.W.codeIn K cd1 "_law_hand" = true) (k1 : PySem.W.keepIn K (.ref f1) = true)
    {od2 an2 : Option Addr} {sl2 : Array (Option Value)} {oc2 kV2 dc2 pm2 cd2 ct2 : Value} (a2 : PySem.W.nsIn K mainGlobals "_law_draw" = some (some (.ref f2))) (l2 : K.lookup f2 = some ⟨oc2, od2, .func (PySem.W.fnOf "_law_draw" "_law_draw" (defArgs s_l_draw) (defBody s_l_draw) (defScope s_l_draw) .none kV2 dc2 pm2 an2 cd2 ct2), sl2⟩) (c2 : PySem.W.codeIn K cd2 "_law_draw" = true) (k2 : PySem.W.keepIn K (.ref f2) = true)
    {od3 an3 : Option Addr} {sl3 : Array (Option Value)} {oc3 kV3 dc3 pm3 cd3 ct3 : Value} (a3 : PySem.W.nsIn K mainGlobals "_law_pick" = some (some (.ref f3))) (l3 : K.lookup f3 = some ⟨oc3, od3, .func (PySem.W.fnOf "_law_pick" "_law_pick" (defArgs s_l_pick) (defBody s_l_pick) (defScope s_l_pick) .none kV3 dc3 pm3 an3 cd3 ct3), sl3⟩) (c3 : PySem.W.codeIn K cd3 "_law_pick" = true) (k3 : PySem.W.keepIn K (.ref f3) = true)
    {od4 an4 : Option Addr} {sl4 : Array (Option Value)} {oc4 kV4 dc4 pm4 cd4 ct4 : Value} (a4 : PySem.W.nsIn K mainGlobals "_law_cuts" = some (some (.ref f4))) (l4 : K.lookup f4 = some ⟨oc4, od4, .func (PySem.W.fnOf "_law_cuts" "_law_cuts" (defArgs s_l_cuts) (defBody s_l_cuts) (defScope s_l_cuts) .none kV4 dc4 pm4 an4 cd4 ct4), sl4⟩) (c4 : PySem.W.codeIn K cd4 "_law_cuts" = true) (k4 : PySem.W.keepIn K (.ref f4) = true)
    {od5 an5 : Option Addr} {sl5 : Array (Option Value)} {oc5 kV5 dc5 pm5 cd5 ct5 : Value} (a5 : PySem.W.nsIn K mainGlobals "_law_frame" = some (some (.ref f5))) (l5 : K.lookup f5 = some ⟨oc5, od5, .func (PySem.W.fnOf "_law_frame" "_law_frame" (defArgs s_l_frame) (defBody s_l_frame) (defScope s_l_frame) .none kV5 dc5 pm5 an5 cd5 ct5), sl5⟩) (c5 : PySem.W.codeIn K cd5 "_law_frame" = true) (k5 : PySem.W.keepIn K (.ref f5) = true)
    {od6 an6 : Option Addr} {sl6 : Array (Option Value)} {oc6 kV6 dc6 pm6 cd6 ct6 : Value} (a6 : PySem.W.nsIn K mainGlobals "cut_blocks" = some (some (.ref f6))) (l6 : K.lookup f6 = some ⟨oc6, od6, .func (PySem.W.fnOf "cut_blocks" "cut_blocks" (defArgs s_p_cut_blocks) (defBody s_p_cut_blocks) (defScope s_p_cut_blocks) .none kV6 dc6 pm6 an6 cd6 ct6), sl6⟩) (c6 : PySem.W.codeIn K cd6 "cut_blocks" = true) (k6 : PySem.W.keepIn K (.ref f6) = true)
    {od7 an7 : Option Addr} {sl7 : Array (Option Value)} {oc7 kV7 dc7 pm7 cd7 ct7 : Value} (a7 : PySem.W.nsIn K mainGlobals "law" = some (some (.ref f7))) (l7 : K.lookup f7 = some ⟨oc7, od7, .func (PySem.W.fnOf "law" "law" (defArgs s_law) (defBody s_law) (defScope s_law) .none kV7 dc7 pm7 an7 cd7 ct7), sl7⟩) (c7 : PySem.W.codeIn K cd7 "law" = true) (k7 : PySem.W.keepIn K (.ref f7) = true)
    (z_abs : PySem.W.nsIn K mainGlobals "abs" = some none)
    (z_enumerate : PySem.W.nsIn K mainGlobals "enumerate" = some none)
    (z_int : PySem.W.nsIn K mainGlobals "int" = some none)
    (z_isinstance : PySem.W.nsIn K mainGlobals "isinstance" = some none)
    (z_len : PySem.W.nsIn K mainGlobals "len" = some none)
    (z_list : PySem.W.nsIn K mainGlobals "list" = some none)
    (z_range : PySem.W.nsIn K mainGlobals "range" = some none)
    (z_tuple : PySem.W.nsIn K mainGlobals "tuple" = some none)
    (z_zip : PySem.W.nsIn K mainGlobals "zip" = some none)
    {ca_CUT_WORDS : Addr} {od_CUT_WORDS : Option Addr} {n_CUT_WORDS : Nat} {sl_CUT_WORDS : Array (Option Value)} {tk0_CUT_WORDS tk1_CUT_WORDS tk2_CUT_WORDS tk3_CUT_WORDS : Tok} (g_CUT_WORDS : PySem.W.nsIn K mainGlobals "CUT_WORDS" = some (some (.ref ca_CUT_WORDS))) (v_CUT_WORDS : K.lookup ca_CUT_WORDS = some ⟨.type "tuple", od_CUT_WORDS, .seq #[.str "mark" tk0_CUT_WORDS, .str "pass" tk1_CUT_WORDS, .str "wind" tk2_CUT_WORDS, .str "way" tk3_CUT_WORDS] n_CUT_WORDS, sl_CUT_WORDS⟩)
    {tk_MOST_IN_BLOCK : Tok} (g_MOST_IN_BLOCK : PySem.W.nsIn K mainGlobals "MOST_IN_BLOCK" = some (some (.int 4 tk_MOST_IN_BLOCK)))
    : ∃ fd : FuncData, (∀ (s : Shared) (v : Value), BindsTo s fd ⟨[v], []⟩ [("_law_script", v)]) ∧ ∀ base : Heap, K.In base → base.Ns mainGlobals mg → LawAt l.prog w K mg base 5 fa fd ["_law_script"] (spLaw K) := by
  have e := hfa.symm.trans (PySem.W.mg_of X G a7)
  cases e
  have T : Txt mg := ⟨PySem.W.mg_none_of X G z_abs, PySem.W.mg_none_of X G z_enumerate, PySem.W.mg_none_of X G z_int, PySem.W.mg_none_of X G z_isinstance, PySem.W.mg_none_of X G z_len, PySem.W.mg_none_of X G z_list, PySem.W.mg_none_of X G z_range, PySem.W.mg_none_of X G z_tuple, PySem.W.mg_none_of X G z_zip⟩
  have D_mix := at_mk (st := s_l_mix) (ps := ["_law_number", "_law_turn"]) X G a0 l0 c0 k0 fun _ _ _ _ _ _ us hl => match us, hl with | [_, _], _ => rfl
  have D_hand := at_mk (st := s_l_hand) (ps := ["_law_script"]) X G a1 l1 c1 k1 fun _ _ _ _ _ _ us hl => match us, hl with | [_], _ => rfl
  have D_draw := at_mk (st := s_l_draw) (ps := ["_law_hand_here", "_law_many"]) X G a2 l2 c2 k2 fun _ _ _ _ _ _ us hl => match us, hl with | [_, _], _ => rfl
  have D_pick := at_mk (st := s_l_pick) (ps := ["_law_hand_here", "_law_things"]) X G a3 l3 c3 k3 fun _ _ _ _ _ _ us hl => match us, hl with | [_, _], _ => rfl
  have D_cuts := at_mk (st := s_l_cuts) (ps := ["_law_births", "_law_things"]) X G a4 l4 c4 k4 fun _ _ _ _ _ _ us hl => match us, hl with | [_, _], _ => rfl
  have D_frame := at_mk (st := s_l_frame) (ps := ["_law_hand_here", "_law_waits"]) X G a5 l5 c5 k5 fun _ _ _ _ _ _ us hl => match us, hl with | [_, _], _ => rfl
  have D_cut := at_mk (st := s_p_cut_blocks) (ps := ["frames", "things"]) X G a6 l6 c6 k6 fun _ _ _ _ _ _ us hl => match us, hl with | [_, _], _ => rfl
  refine ⟨PySem.W.fnOf "law" "law" (defArgs s_law) (defBody s_law) (defScope s_law) .none kV7 dc7 pm7 an7 cd7 ct7, fun s v => .of_eq rfl, fun base _ _ => ?_⟩
  have U : Top K mg := ⟨⟨_, PySem.W.mg_of X G g_CUT_WORDS, fun H => .inr ⟨_, _, _, v_CUT_WORDS, rfl, rfl, (show 4 ≤ sizeLine by decide), .cons ⟨_, rfl⟩ (.cons ⟨_, rfl⟩ (.cons ⟨_, rfl⟩ (.cons ⟨_, rfl⟩ .nil)))⟩⟩, ⟨_, PySem.W.mg_of X G g_MOST_IN_BLOCK⟩⟩
  have c1 := ok_mix (P := l.prog) (w := w) (base := base) T D_mix
  have c2 := ok_draw T c1 D_draw
  have c3 := ok_pick T c2 D_pick
  exact ok_law T ⟨ok_hand T D_hand, c2, ok_frame T c2 c3 D_frame, ok_cuts T D_cuts, ok_cut_blocks T U D_cut⟩ (fun_mk (st := s_law) l7 c7 k7)
theorem walk {l : PySem.W.OpenLaw} {q : Program} {loose : List Str} {XP : (Str → Option Value) → Heap → Prop} {YP : World → Heap → Prop} {d : DefRec} {K : Params → PySem.W.Frag} (hn : l.most = some 63) (hdf : d.params.defaults = [])
    (hY : ∀ (w : World) (h : Heap), YP w h → (K w.params).In h)
    (F : ∀ (w : World) (mg : Str → Option Value) (fa : Addr) (h : Heap), (K w.params).In h → h.Ns mainGlobals mg → mg d.name = some (.ref fa) →
      ∃ fd : FuncData, (∀ (s : Shared) (u : Value), BindsTo s fd ⟨[u], []⟩ [("_law_script", u)]) ∧ ∀ base : Heap, (K w.params).In base → base.Ns mainGlobals mg → LawAt l.prog w (K w.params) mg base 5 fa fd ["_law_script"] (spLaw (K w.params))) :
    PySem.W.WalkO q loose XP YP l.row.toRowW d [] (fun f vs => PySem.call f vs) :=
  walk_law (n := 63) (k := 5) (x := "_law_script") (sp := fun K => spLaw K) hn (by decide) hdf ⟨rfl, by decide, by decide⟩ hY F fun _ _ a ns hl _ hS => ⟨a, ns, rfl, hS, hl, fun _ => rfl⟩
end K24

open PySem PySem.W PyProof.Rows in
set_option maxRecDepth 100000 in
set_option maxHeartbeats 0 in
theorem PySem.Challenge.cw_goonagain_k24_rows_cut_into_blocks_holds : PySem.Challenge.rw_goonagain_k24_rows_cut_into_blocks.Holds := by
  w_on; o_law; k_head; (case hw => w_witness2)
  k_fill
  refine K24.walk (l := PySem.Challenge.rw_goonagain_k24_rows_cut_into_blocks) rfl rfl (fun w h Y => PySem.W.kIn_of Y) ?F
  case F =>
    intro w mg fa h KX G hmg
    refine' K24.all_mk KX G hmg ?a0 ?l0 ?c0 ?k0 ?a1 ?l1 ?c1 ?k1 ?a2 ?l2 ?c2 ?k2 ?a3 ?l3 ?c3 ?k3 ?a4 ?l4 ?c4 ?k4 ?a5 ?l5 ?c5 ?k5 ?a6 ?l6 ?c6 ?k6 ?a7 ?l7 ?c7 ?k7 ?z_abs ?z_enumerate ?z_int ?z_isinstance ?z_len ?z_list ?z_range ?z_tuple ?z_zip ?g_CUT_WORDS ?v_CUT_WORDS ?g_MOST_IN_BLOCK
    (case a0 => k_is)
    (case l0 => k_is)
    (case c0 => k_is)
    (case k0 => k_is)
    (case a1 => k_is)
    (case l1 => k_is)
    (case c1 => k_is)
    (case k1 => k_is)
    (case a2 => k_is)
    (case l2 => k_is)
    (case c2 => k_is)
    (case k2 => k_is)
    (case a3 => k_is)
    (case l3 => k_is)
    (case c3 => k_is)
    (case k3 => k_is)
    (case a4 => k_is)
    (case l4 => k_is)
    (case c4 => k_is)
    (case k4 => k_is)
    (case a5 => k_is)
    (case l5 => k_is)
    (case c5 => k_is)
    (case k5 => k_is)
    (case a6 => k_is)
    (case l6 => k_is)
    (case c6 => k_is)
    (case k6 => k_is)
    (case a7 => k_is)
    (case l7 => k_is)
    (case c7 => k_is)
    (case k7 => k_is)
    (case z_abs => k_is)
    (case z_enumerate => k_is)
    (case z_int => k_is)
    (case z_isinstance => k_is)
    (case z_len => k_is)
    (case z_list => k_is)
    (case z_range => k_is)
    (case z_tuple => k_is)
    (case z_zip => k_is)
    (case g_CUT_WORDS => k_is)
    (case v_CUT_WORDS => k_is)
    (case g_MOST_IN_BLOCK => k_is)
