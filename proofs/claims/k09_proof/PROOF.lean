import PyProof.Rows.All
import Wide.All
import OpenK.AllK
import Wide.FinOn
import HandS.ForMost
import HandS.Codes
import HandS.Wide
import HandS.TupAny
import HandS.Conv
import HandS.RevRange
import HandS.SortInts
import HandS.RaiseMore
import HandS.Style
import HandS.Walk
import HandS.Zip
import HandS.More
import KE.GoesEnum
import KE.GoesMore
import KE.KDictList
import KE.KDictSum
import PySem.Challenge.RW_goonagain_k09_deeds_for_all_rows_of_fram
set_option Elab.async false
set_option maxRecDepth 100000
set_option maxHeartbeats 4000000
/-! common part: what a call keeps, data, repr, the hand of draws -/
namespace Cm
open PySem L2

/-! ### what is kept but at the lists M -/
structure Kp (M : Addr → Prop) (H H' : Hp) : Prop where
  st : ∀ a o, ¬ M a → H a = some o → H' a = some o
  l1 : ∀ a, M a → ∃ xs, H a = some (.lst xs)
  l2 : ∀ a, M a → ∃ xs, H' a = some (.lst xs)
theorem Kp.trans {M : Addr → Prop} {H H1 H2 : Hp} (a : Kp M H H1) (b : Kp M H1 H2) : Kp M H H2 :=
  ⟨fun x o n e => b.st x o n (a.st x o n e), a.l1, b.l2⟩
theorem Kp.of_same {M : Addr → Prop} {H H' : Hp} (h : ∀ a, M a → ∃ xs, H a = some (.lst xs)) (s : Same H H') : Kp M H H' :=
  ⟨fun x o _ e => s x o e, h, fun a m => let ⟨xs, e⟩ := h a m; ⟨xs, s a _ e⟩⟩
theorem Kp.refl {M : Addr → Prop} {H : Hp} (h : ∀ a, M a → ∃ xs, H a = some (.lst xs)) : Kp M H H := .of_same h (Same.refl H)
theorem same_new {H : Hp} {p : Addr} {o : HO} (h : H p = Option.none) : Same H (upd H p o) := fun b u e => by
  rw [upd_ne (ne_of_none e h)]
  exact e
theorem Kp.new {M : Addr → Prop} {H : Hp} (h : ∀ a, M a → ∃ xs, H a = some (.lst xs)) {p : Addr} {o : HO} (hp : H p = Option.none) : Kp M H (upd H p o) :=
  .of_same h (same_new hp)
theorem Kp.put {M : Addr → Prop} {H : Hp} (h : ∀ a, M a → ∃ xs, H a = some (.lst xs)) {p : Addr} {ys : List V} (hp : M p) : Kp M H (upd H p (.lst ys)) :=
  ⟨fun x o n e => by
    rw [upd_ne (show x ≠ p by rintro rfl; exact n hp)]
    exact e, h, fun a m => by
    by_cases q : a = p
    · subst q
      exact ⟨ys, upd_same⟩
    · rw [upd_ne q]
      exact h a m⟩
theorem Kp.wider {M N : Addr → Prop} {H H' : Hp} (k : Kp M H H') (h : ∀ a, M a → N a) (l : ∀ a, N a → ∃ xs, H a = some (.lst xs)) : Kp N H H' :=
  ⟨fun x o n e => k.st x o (fun m => n (h x m)) e, l, fun a m => by
    by_cases q : M a
    · exact k.l2 a q
    · obtain ⟨xs, e⟩ := l a m
      exact ⟨xs, k.st a _ q e⟩⟩
theorem Kp.tup {M : Addr → Prop} {K : PySem.W.Frag} {H H' : Hp} {a : Addr} {xs : List V} (k : Kp M H H') (h : SqT K H a xs) : SqT K H' a xs := by
  have no : ∀ o, H a = some o → (∀ ys, o ≠ .lst ys) → ¬ M a := fun o e n m => by
    obtain ⟨ys, e2⟩ := k.l1 a m
    rw [e] at e2
    exact n ys (Option.some.inj e2)
  rcases h with (h | ⟨o, h⟩) | h
  · exact .inl (.inl (k.st _ _ (no _ h fun _ z => nomatch z) h))
  · exact .inl (.inr ⟨o, k.st _ _ (no _ h fun _ z => nomatch z) h⟩)
  · exact .inr h
theorem Kp.free {M : Addr → Prop} {H H' : Hp} {p : Addr} (k : Kp M H H') (h : H' p = Option.none) : H p = Option.none := by
  cases e : H p with
  | none => rfl
  | some o =>
    by_cases q : M p
    · obtain ⟨xs, e2⟩ := k.l2 p q
      rw [h] at e2
      cases e2
    · have := k.st p o q e
      rw [h] at this
      cases this
theorem Kp.m_of {M : Addr → Prop} {H H' : Hp} {p : Addr} (k : Kp M H H') (h : H p = Option.none) : ¬ M p := fun m => by
  obtain ⟨xs, e⟩ := k.l1 p m
  rw [h] at e
  cases e

/-! ### data -/
mutual
/-- no list, no dict in it -/
def flatD : PyData → Bool
  | .list _ => false
  | .dict _ => false
  | .tuple xs => flatDs xs
  | _ => true
def flatDs : List PyData → Bool
  | [] => true
  | x :: xs => flatD x && flatDs xs
end
mutual
theorem dp_keep {K : PySem.W.Frag} {H H' : Hp} (k : ∀ a xs, SqT K H a xs → SqT K H' a xs) : ∀ (d : PyData) (v : V), flatD d = true → Dp K H v d → Dp K H' v d
  | .none, _, _, h => by cases h; exact .non
  | .bool _, _, _, h => by cases h; exact .bl _
  | .int _, _, _, h => by cases h; exact .int _
  | .str _, _, _, h => by cases h; exact .str _
  | .list _, _, f, _ => by simp [flatD] at f
  | .dict _, _, f, _ => by simp [flatD] at f
  | .tuple ds, _, f, h => by
    cases h with
    | tup hs ha => exact .tup (k _ _ hs) (dps_keep k ds _ (by simpa [flatD] using f) ha)
theorem dps_keep {K : PySem.W.Frag} {H H' : Hp} (k : ∀ a xs, SqT K H a xs → SqT K H' a xs) : ∀ (ds : List PyData) (vs : List V), flatDs ds = true → DpAll K H vs ds → DpAll K H' vs ds
  | [], _, _, h => by cases h; exact .nil
  | d :: ds, _, f, h => by
    cases h with
    | cons h1 h2 =>
      have f' : flatD d = true ∧ flatDs ds = true := by simpa [flatDs] using f
      exact .cons (dp_keep k d _ f'.1 h1) (dps_keep k ds _ f'.2 h2)
end
mutual
/-- all lists in it are kept as well -/
theorem dp_same {K : PySem.W.Frag} {H H' : Hp} (s : Same H H') : ∀ (d : PyData) (v : V), Dp K H v d → Dp K H' v d
  | .none, _, h => by cases h; exact .non
  | .bool _, _, h => by cases h; exact .bl _
  | .int _, _, h => by cases h; exact .int _
  | .str _, _, h => by cases h; exact .str _
  | .dict _, _, h => by cases h
  | .list ds, _, h => by
    cases h with
    | lst hs ha => exact .lst (s.seq hs) (dps_same s ds _ ha)
  | .tuple ds, _, h => by
    cases h with
    | tup hs ha =>
      refine .tup ?_ (dps_same s ds _ ha)
      rcases hs with (h | ⟨o, h⟩) | h
      · exact .inl (.inl (s _ _ h))
      · exact .inl (.inr ⟨o, s _ _ h⟩)
      · exact .inr h
theorem dps_same {K : PySem.W.Frag} {H H' : Hp} (s : Same H H') : ∀ (ds : List PyData) (vs : List V), DpAll K H vs ds → DpAll K H' vs ds
  | [], _, h => by cases h; exact .nil
  | d :: ds, _, h => by
    cases h with
    | cons h1 h2 => exact .cons (dp_same s d _ h1) (dps_same s ds _ h2)
end
theorem DpAll.len {K : PySem.W.Frag} {H : Hp} : ∀ {vs : List V} {ds : List PyData}, DpAll K H vs ds → vs.length = ds.length
  | _, _, .nil => rfl
  | _, _, .cons _ h => congrArg (· + 1) (DpAll.len h)
theorem DpAll.at {K : PySem.W.Frag} {H : Hp} : ∀ {vs : List V} {ds : List PyData} {i : Nat} {d : PyData}, DpAll K H vs ds → ds[i]? = some d → ∃ v, vs[i]? = some v ∧ Dp K H v d
  | _, _, 0, d, .cons h _, e => by
    simp at e
    subst e
    exact ⟨_, rfl, h⟩
  | _, _, i + 1, d, .cons _ h, e => by
    obtain ⟨v, h1, h2⟩ := DpAll.at (i := i) (d := d) h (by simpa using e)
    exact ⟨v, by simpa using h1, h2⟩
theorem DpAll.atV {K : PySem.W.Frag} {H : Hp} : ∀ {vs : List V} {ds : List PyData} {i : Nat} {v : V}, DpAll K H vs ds → vs[i]? = some v → ∃ d, ds[i]? = some d ∧ Dp K H v d
  | _, _, 0, d, .cons h _, e => by
    simp at e
    subst e
    exact ⟨_, rfl, h⟩
  | _, _, i + 1, d, .cons _ h, e => by
    obtain ⟨v, h1, h2⟩ := DpAll.atV (i := i) (v := d) h (by simpa using e)
    exact ⟨v, by simpa using h1, h2⟩
theorem DpAll.snoc {K : PySem.W.Frag} {H : Hp} {v : V} {d : PyData} (h : Dp K H v d) : ∀ {vs : List V} {ds : List PyData}, DpAll K H vs ds → DpAll K H (vs ++ [v]) (ds ++ [d])
  | _, _, .nil => .cons h .nil
  | _, _, .cons a b => .cons a (DpAll.snoc h b)
theorem DpAll.app {K : PySem.W.Frag} {H : Hp} : ∀ {vs ws : List V} {ds es : List PyData}, DpAll K H vs ds → DpAll K H ws es → DpAll K H (vs ++ ws) (ds ++ es)
  | _, _, _, _, .nil, h => h
  | _, _, _, _, .cons a b, h => .cons a (DpAll.app b h)
theorem DpAll.take {K : PySem.W.Frag} {H : Hp} (n : Nat) : ∀ {vs : List V} {ds : List PyData}, DpAll K H vs ds → DpAll K H (vs.take n) (ds.take n) := by
  induction n with
  | zero => intro vs ds _; exact .nil
  | succ n ih =>
    intro vs ds h
    cases h with
    | nil => exact .nil
    | cons a b => exact .cons a (ih b)
theorem DpAll.drop {K : PySem.W.Frag} {H : Hp} (n : Nat) : ∀ {vs : List V} {ds : List PyData}, DpAll K H vs ds → DpAll K H (vs.drop n) (ds.drop n) := by
  induction n with
  | zero => intro vs ds h; exact h
  | succ n ih =>
    intro vs ds h
    cases h with
    | nil => exact .nil
    | cons a b => exact ih b
theorem DpAll.rev {K : PySem.W.Frag} {H : Hp} : ∀ {vs : List V} {ds : List PyData}, DpAll K H vs ds → DpAll K H vs.reverse ds.reverse
  | _, _, .nil => .nil
  | _, _, .cons a b => by
    rw [List.reverse_cons, List.reverse_cons]
    exact DpAll.snoc a (DpAll.rev b)
theorem dpAll_ints {K : PySem.W.Frag} {H : Hp} : ∀ ns : List Int, DpAll K H (ns.map V.int) (ns.map PyData.int)
  | [] => .nil
  | n :: ns => .cons (.int n) (dpAll_ints ns)

/-! ### repr of data -/
/-- what repr sees at a value: data of lists and tuples, or a dict of int keys whose values are data without lists -/
def Rp (K : PySem.W.Frag) (H : Hp) (x : V) (d : PyData) : Prop :=
  Dp K H x d ∨ ∃ (a : Addr) (kvs : List (Key × V)) (es : List (Int × PyData)), x = .ref a ∧ H a = some (.dK kvs) ∧ kvs.map (·.1) = es.map (fun e => Sum.inl e.1) ∧
    DpAll K H (kvs.map (·.2)) (es.map (·.2)) ∧ flatDs (es.map (·.2)) = true ∧ d = .dict (es.map fun e => (.int e.1, e.2))
mutual
/-- short leaves -/
def okD : PyData → Bool
  | .int i => decide (i.natAbs < 10 ^ 12)
  | .str x => PyData.leavesShort 13 (.str x)
  | .list xs => okDs xs
  | .tuple xs => okDs xs
  | .dict kvs => okDk kvs
  | _ => true
def okDs : List PyData → Bool
  | [] => true
  | x :: xs => okD x && okDs xs
def okDk : List (PyData × PyData) → Bool
  | [] => true
  | (k, v) :: r => okD k && okD v && okDk r
end
mutual
theorem okD_show : ∀ d : PyData, okD d = true → d.showable = true ∧ d.leavesShort 13 = true
  | .none, _ => by constructor <;> first | rfl | decide +kernel | simp [PyData.showable, PyData.leavesShort]
  | .bool b, _ => by cases b <;> constructor <;> first | rfl | decide +kernel
  | .int i, h => by
    have h' : i.natAbs < 10 ^ 12 := by simpa [okD] using h
    refine ⟨?_, ?_⟩
    · have : i.natAbs.log2 < 1920 := by
        by_cases z : i.natAbs = 0
        · rw [z]; decide
        · refine Nat.lt_of_lt_of_le ((Nat.log2_lt z).mpr (show i.natAbs < 2 ^ 64 from Nat.lt_of_lt_of_le h' (by decide))) (by decide)
      simpa [PyData.showable] using this
    · have := PyData.shown_int_le h'
      simpa [PyData.leavesShort] using this
  | .str x, h => by
    exact ⟨by simp [PyData.showable], by simpa only [okD] using h⟩
  | .list xs, h => by
    have := okDs_show xs (by simpa [okD] using h)
    exact ⟨by simpa [PyData.showable] using this.1, by simpa [PyData.leavesShort] using this.2⟩
  | .tuple xs, h => by
    have := okDs_show xs (by simpa [okD] using h)
    exact ⟨by simpa [PyData.showable] using this.1, by simpa [PyData.leavesShort] using this.2⟩
  | .dict kvs, h => by
    have := okDk_show kvs (by simpa [okD] using h)
    exact ⟨by simpa [PyData.showable] using this.1, by simpa [PyData.leavesShort] using this.2⟩
theorem okDs_show : ∀ xs : List PyData, okDs xs = true → PyData.showableAll xs = true ∧ PyData.leavesShortAll 13 xs = true
  | [], _ => ⟨by simp [PyData.showableAll], by simp [PyData.leavesShortAll]⟩
  | x :: xs, h => by
    have h' : okD x = true ∧ okDs xs = true := by simpa [okDs] using h
    have a := okD_show x h'.1
    have b := okDs_show xs h'.2
    exact ⟨by simp [PyData.showableAll, a.1, b.1], by simp [PyData.leavesShortAll, a.2, b.2]⟩
theorem okDk_show : ∀ xs : List (PyData × PyData), okDk xs = true → PyData.showableKv xs = true ∧ PyData.leavesShortKv 13 xs = true
  | [], _ => ⟨by simp [PyData.showableKv], by simp [PyData.leavesShortKv]⟩
  | (k, v) :: xs, h => by
    have h' : (okD k = true ∧ okD v = true) ∧ okDk xs = true := by simpa [okDk] using h
    have a := okD_show k h'.1.1
    have b := okD_show v h'.1.2
    have c := okDk_show xs h'.2
    exact ⟨by simp [PyData.showableKv, a.1, b.1, c.1], by simp [PyData.leavesShortKv, a.2, b.2, c.2]⟩
end
mutual
theorem no_as {h : Heap} : ∀ (d : PyData) (u : Value) (as : List Addr), flatD d = true → Reads h u d as → as = []
  | .none, _, _, _, r => by cases r; rfl
  | .bool _, _, _, _, r => by cases r; rfl
  | .int _, _, _, _, r => by cases r; rfl
  | .str _, _, _, _, r => by cases r; rfl
  | .list _, _, _, f, _ => by simp [flatD] at f
  | .dict _, _, _, f, _ => by simp [flatD] at f
  | .tuple ds, _, _, f, r => by
    cases r with
    | tuple _ _ _ ha => exact no_ass ds _ _ (by simpa [flatD] using f) ha
theorem no_ass {h : Heap} : ∀ (ds : List PyData) (us : List Value) (as : List Addr), flatDs ds = true → ReadsAll h us ds as → as = []
  | [], _, _, _, r => by cases r; rfl
  | d :: ds, _, _, f, r => by
    have f' : flatD d = true ∧ flatDs ds = true := by simpa [flatDs] using f
    cases r with
    | cons r1 r2 => rw [no_as d _ _ f'.1 r1, no_ass ds _ _ f'.2 r2]; rfl
end
mutual
theorem dp_nodict {K : PySem.W.Frag} {H : Hp} : ∀ (d : PyData) (v : V), Dp K H v d → d.hasDict = false
  | .none, _, _ => by simp [PyData.hasDict]
  | .bool _, _, _ => by simp [PyData.hasDict]
  | .int _, _, _ => by simp [PyData.hasDict]
  | .str _, _, _ => by simp [PyData.hasDict]
  | .dict _, _, h => by cases h
  | .list ds, _, h => by
    cases h with
    | lst _ ha => simpa [PyData.hasDict] using dps_nodict ds _ ha
  | .tuple ds, _, h => by
    cases h with
    | tup _ ha => simpa [PyData.hasDict] using dps_nodict ds _ ha
theorem dps_nodict {K : PySem.W.Frag} {H : Hp} : ∀ (ds : List PyData) (vs : List V), DpAll K H vs ds → PyData.hasDictAll ds = false
  | [], _, _ => by simp [PyData.hasDictAll]
  | d :: ds, _, h => by
    cases h with
    | cons h1 h2 => simp [PyData.hasDictAll, dp_nodict d _ h1, dps_nodict ds _ h2]
end
theorem flatDs_ints : ∀ ks : List Int, flatDs (ks.map PyData.int) = true
  | [] => rfl
  | k :: ks => by simp [flatDs, flatD, flatDs_ints ks]
section
variable {X : Cx}
theorem dict_keys {prog : Program} {w : World} {h : Heap} : ∀ (es : List (Int × PyData)) (kvs : List (Key × V)) (l : List DictEntry) (vs : List (Key × Value)), kvs.map (·.1) = es.map (fun e => Sum.inl e.1) → KV kvs vs → Pairs (mixKind prog w) l vs →
    ReadsAll h (l.map (·.key)) (es.map fun e => PyData.int e.1) [] ∧ Vals (kvs.map (·.2)) (l.map (·.val))
  | [], kvs, l, vs, hk, r, p => by
    cases kvs with
    | cons a b => simp at hk
    | nil =>
      cases r
      cases p
      exact ⟨.nil, .nil⟩
  | e :: es, kvs, l, vs, hk, r, p => by
    cases kvs with
    | nil => simp at hk
    | cons a b =>
      simp only [List.map_cons, List.cons.injEq] at hk
      cases r with
      | @cons _ v _ vs' r1 r2 =>
        cases p with
        | @cons en _ l' _ p1 p2 p3 =>
          obtain ⟨q1, q2⟩ := dict_keys es b l' vs' hk.2 r2 p3
          have p1' : keyIs v.1 en.key = true := p1
          rw [← r1.1, hk.1] at p1'
          obtain ⟨t, et⟩ := Value.isInt_shape (k := e.1) (v := en.key) p1'
          refine ⟨?_, .cons ?_ q2⟩
          · rw [List.map_cons, List.map_cons, et]
            exact ReadsAll.cons (as := []) (bs := []) (Reads.int _ _) q1
          · show RelV a.2 en.val
            rw [p2]
            exact r1.2
def rRepr (K : PySem.W.Frag) : List V → Hp → VK → Prop := fun xs H Q => ∃ x d, xs = [x] ∧ Rp K H x d ∧ okD d = true ∧ d.depth ≤ 60 ∧ d.weight ≤ 2 ^ 20 ∧ Q (.str d.shown) H
theorem call_reprD (hg : X.A.guards = some []) (hu : X.A.units + 64 < cLine) : CallR X (.builtin "repr") (rRepr X.K) := by
  intro pins s σ H xs us Q I r h
  obtain ⟨x, d, rfl, hd, ok, hdep, hw, q⟩ := h
  obtain ⟨u, rfl, rx⟩ := vals1 r
  obtain ⟨hsh, hls⟩ := okD_show d ok
  have hsz : d.shown.length ≤ sizeLine := PyData.shown_fits (by decide) (by decide) hls hw
  have fin : ∀ (a : Addr) (as : List Addr), u = .ref a → Reads s.heap u d as → (d.hasDict = true → sysModules ∉ as) → wpAny (model X.prog X.w) X.A (call (.builtin "repr") [u]) (EP X pins σ Q) X.xe s := fun a as e rd no => by
    subst e
    exact repr_of_reads' rd hsh no hg (by omega) (fun _ _ e => e) (fun h' u tk k => ⟨.str _, H, I.kept k, ⟨_, rfl⟩, q⟩) hsz
  rcases hd with hd | ⟨a, kvs, es, rfl, ha, hk, hv, hf, rfl⟩
  · obtain ⟨as, rd⟩ := Dp.reads I d x u hd rx
    cases hd with
    | non => cases rx; exact P.repr_of_none ⟨.str _, H, I.tok _, ⟨_, rfl⟩, q⟩
    | bl b => cases rx; exact P.repr_of_bool ⟨.str _, H, I.tok _, ⟨_, rfl⟩, by cases b <;> exact q⟩
    | int i =>
      obtain ⟨t, rfl⟩ := rx
      exact P.repr_of_int (by simpa [PyData.showable] using hsh) ⟨.str _, H, I.tok _, ⟨_, rfl⟩, by simpa [PyData.shown] using q⟩
    | str z =>
      obtain ⟨t, rfl⟩ := rx
      exact P.repr_of_str ⟨.str _, H, I.tok _, ⟨_, rfl⟩, by simpa [PyData.shown] using q⟩ (by simpa [PyData.shown] using hsz)
    | lst hs ha =>
      have nd := dp_nodict _ _ (Dp.lst hs ha)
      cases rx
      exact fin _ as rfl rd fun z => by rw [nd] at z; cases z
    | tup hs ha =>
      have nd := dp_nodict _ _ (Dp.tup hs ha)
      cases rx
      exact fin _ as rfl rd fun z => by rw [nd] at z; cases z
  · cases rx
    obtain ⟨_, hsys, vs, rv, ob, dl, ep, e1, e2, e3, _, e5, _⟩ := (show kvs.length ≤ sizeLine ∧ (a == sysModules) = false ∧ ∃ vs, KV kvs vs ∧ s.heap.DictOf (mixKind X.prog X.w) a vs from dk_of I.hok ha)
    obtain ⟨q1, q2⟩ := dict_keys es kvs dl.toList vs hk rv e5
    obtain ⟨bs, q3⟩ := Dp.readsAll I _ _ _ hv q2
    obtain rfl := no_ass _ _ _ hf q3
    have rd : Reads s.heap (.ref a) (.dict (es.map fun e => (PyData.int e.1, e.2))) (a :: [] ++ []) :=
      .dict e1 e2.1 e3 (by rw [List.map_map]; exact q1) (by rw [List.map_map]; exact q3)
    exact fin a _ rfl rd fun _ m => by
      have : sysModules = a := by simpa using m
      rw [← this] at hsys
      simp at hsys
end
end Cm

/-! a law's call whose body may ask repr: nothing is under repr there -/
namespace Cm
open PySem L2 PySem.Spec PyProof.Rows
section
variable {P : Program} {w : World} {K : PySem.W.Frag} {mg : Str → Option Value} {base : Heap}
/-- the promise of the law's def, where no repr is under way -/
def LawAt (P : Program) (w : World) (K : PySem.W.Frag) (mg : Str → Option Value) (base : Heap) (k : Nat) (f : Addr) (fd : FuncData) (ps : List Str) (sp : Sp) : Prop :=
  ∀ (A : Around) (outer : List Env) (s : Shared) (H : Hp) (args : Args) (us : List Value) (vs : List V) (Q : VK) (E : XK),
    A.guards = some [] → Room k A → Env0 P w K mg base A outer s H → BindsTo s fd args (ps.zip us) → Vals vs us → sp vs H Q E →
      codeAny (model P w) A (.call (.ref f) args) (CR CX0 outer P w H s Q E) s
theorem lawAt_of {x : Str} {st : Stmt} {f : Addr} {fd : FuncData} {N ps : List Str} {k : Nat} {sp : Sp} (F : Fun K x x st f fd) (S : FnScope N ps (defScope st))
    (len : ∀ vs H Q E, sp vs H Q E → vs.length = ps.length)
    (hb : ∀ (cdv : Value) (A : Around) (outer : List Env) (s : Shared) (H : Hp) (vs : List V) (Q : VK) (E : XK), A.guards = some [] →
      Room k (A.deeper (envOfC x (defScope st) s.heap.objs.size f cdv)) → sp vs H Q E →
      ∃ t, PSs (cxOf CX0 P w K mg base N x (defScope st) f cdv A outer s H E).nox (defBody st) t ∧ t { nx := fun _ H' => Q .non H', rt := Q } (start N vs) H) :
    LawAt P w K mg base (k + 1) f fd ps sp := by
  intro A outer s H args us vs Q E hg hr e0 hbind rv hs
  obtain ⟨oc, od, kV, doc, pm, an, cdv, ct, osl, rfl, lk, hcd⟩ := F.ex
  have keeps : ∀ b o, base.get? b = some o → s.heap.get? b = some o := fun b o e => (e0.bs b o e).1
  have KX : K.In s.heap := e0.mod.kin.keeps keeps
  refine codeAny_call_function hr.depth (KX _ _ lk) rfl S.co S.gen rfl (PySem.W.codeRec_of KX hcd) (hbind _ _ _ _ ?_)
  refine wpAny_newFunctionEnv_cells S.kind (fun z hz => ?_) fun env he s1 xc => ?_
  · rcases S.par z.1 (List.of_mem_zip (show (z.1, z.2) ∈ ps.zip us from hz)).1 with q | q
    · exact Or.inl q
    · exact Or.inr ⟨q, PySem.W.cellsFrom_some _ _ _ (Or.inl q)⟩
  · subst he
    refine ⟨(e0.mod.nolimit.keeps keeps).keeps xc.toInCall.keep, codeAny_func ?_⟩
    obtain ⟨t, ht, hq⟩ := hb cdv A outer s H vs Q E hg (hr.deeper _) hs
    have I := inv_start (E := E) (CX := CX0) S hr.hd e0 (len _ _ _ _ hs) rv xc
    refine wpAny_mono (ht.nox.run [] s1 (start N vs) H _ I hq) (fun fl s' hz => ?_) fun e s' hz => hz
    cases fl with
    | ret u =>
      obtain ⟨v, _, H', J, r, q⟩ := hz
      exact ⟨v, H', J.os, J.bare, J.base, J.hok, r, q⟩
    | next =>
      obtain ⟨_, H', J, q⟩ := hz
      exact ⟨V.non, H', J.os, J.bare, J.base, J.hok, rfl, q⟩
    | brk =>
      obtain ⟨_, _, _, q⟩ := hz
      exact q.elim
    | cont =>
      obtain ⟨_, _, _, q⟩ := hz
      exact q.elim
end
/-- the script tracked at a: known to the object, or one of the module's own -/
def scriptH (a : Addr) (o : Obj) (ns : List Int) : Hp := fun b => if b = a then some (.frz o (.lst (ns.map V.int))) else Option.none
theorem law_goes {P : Program} {w : World} {K : PySem.W.Frag} {mg mb : Str → Option Value} {k : Nat} {fa a : Addr} {fd : FuncData} {x : Str} {sp : Sp} {s₁ : Shared} {vs : List Value} {ns : List Int}
    (KX : K.In s₁.heap) (hns : s₁.heap.Ns mainGlobals mg) (hb : s₁.heap.Ns builtinsNs mb)
    (hbb : ∀ x : Str, x ≠ "__name__" → mb x = bootBuiltins x) (hlim : s₁.heap.NoLimit) (hg : s₁.gens = #[])
    (ha : s₁.heap.get? a = some { cls := .type "list", data := .seq vs.toArray }) (hi : IntsAre vs ns) (hl : ns.length ≤ sizeLine) (hr : Room k callerA)
    (F : ∀ b : Heap, K.In b → b.Ns mainGlobals mg → LawAt P w K mg b k fa fd [x] sp)
    (hbind : ∀ (s : Shared) (u : Value), BindsTo s fd ⟨[u], []⟩ [(x, u)])
    (hsp : ∀ H : Hp, Only H → SqL K H a (ns.map V.int) → sp [.ref a] H (fun v _ => v = .bl true) fun _ _ _ => False) :
    codeAny (model P w) callerA (.call (.ref fa) ⟨[.ref a], []⟩)
      (fun r s' => r = .ok (.ret (.bool true)) ∧ OldK s₁.heap s'.heap ∧ s'.os = s₁.os ∧ AllBare s'.gens) s₁ := by
  have rv := vals_ints hi
  have main : ∀ H : Hp, Only H → SqL K H a (ns.map V.int) → HOk P w H s₁.heap → (∀ b, H b ≠ Option.none → b = a ∧ K.lookup a = Option.none) →
      codeAny (model P w) callerA (.call (.ref fa) ⟨[.ref a], []⟩)
        (fun r s' => r = .ok (.ret (.bool true)) ∧ OldK s₁.heap s'.heap ∧ s'.os = s₁.os ∧ AllBare s'.gens) s₁ := by
    intro H hO hS hok hA
    have free_ns : ∀ {b : Addr} {o : Obj} {es : Array DictEntry} {ep : Nat}, s₁.heap.get? b = some o → o.data = .dict es ep → H b = Option.none := fun {b o es ep} e d => by
      by_cases q : H b = Option.none
      · exact q
      · obtain ⟨rfl, _⟩ := hA b q
        rw [ha] at e
        cases e
        cases d
    have ns_of : ∀ {b : Addr} {m : Str → Option Value}, s₁.heap.Ns b m → (hidT s₁.heap H).Ns b m := fun h => by
      obtain ⟨o, es, ep, e, d, r⟩ := h
      exact ⟨o, es, ep, hidT_get e (free_ns e d), d, r⟩
    have kin : K.In (hidT s₁.heap H) := fun b o e => hidT_get (KX b o e) (by
      by_cases q : H b = Option.none
      · exact q
      · obtain ⟨rfl, q2⟩ := hA b q
        rw [q2] at e
        cases e)
    obtain ⟨mc, l1, l2⟩ := hlim
    have e0 : Env0 P w K mg (hidT s₁.heap H) callerA [] s₁ H :=
      { frames := rfl, mod := ⟨kin, ns_of hns, ⟨mb, ns_of hb, hbb⟩, ⟨mc, ns_of l1, l2⟩⟩, bs := fun b o e => of_hidT e, bsz := Nat.le_of_eq (hidT_size _ _),
        funs := trivial, frf := fun b z => absurd (show b ∈ ([] : List Addr) from z) (by simp), hok := hok, bare := .of_eq hg }
    have run := F _ kin (ns_of hns) callerA [] s₁ H ⟨[.ref a], []⟩ [.ref a] [.ref a] _ _ rfl hr e0 (hbind s₁ (.ref a)) (.cons rfl .nil) (hsp H hO hS)
    refine codeAny_mono run fun r s' h => ?_
    rcases r with e | fl
    · exact False.elim h
    · cases fl with
      | ret u =>
        obtain ⟨v, H', os, bare, un, hok', r', q⟩ := h
        have q' : v = .bl true := q
        subst q'
        have eu : u = Value.bool true := r'
        subst eu
        refine ⟨rfl, OldK.of_keep fun b o e => ?_, os, bare⟩
        by_cases q : H b = Option.none
        · exact un.keep b o e q (fun z => absurd (show b ∈ ([] : List Addr) from z) (by simp)) (by simp)
        · rcases hO b with z | ⟨ob, xs, z⟩
          · exact absurd z q
          · have e1 := (hok b _ z).1
            have e2 := (hok' b _ (un.frzs b ob _ z)).1
            rw [e] at e1
            cases e1
            exact e2
      | next => exact False.elim h
      | brk => exact False.elim h
      | cont => exact False.elim h
  by_cases hk : K.lookup a = Option.none
  · refine main (scriptH a { cls := .type "list", data := .seq vs.toArray } ns) (fun b => ?_) (.inl (.inr ⟨_, if_pos rfl⟩)) (fun b u z => ?_) fun b z => ?_
    · by_cases q : b = a
      · exact .inr ⟨_, _, if_pos q⟩
      · exact .inl (if_neg q)
    · unfold scriptH at z
      by_cases q : b = a
      · rw [if_pos q] at z
        cases z
        subst q
        exact ⟨ha, by rw [List.length_map]; exact hl, vs, _, rv, ha⟩
      · rw [if_neg q] at z
        cases z
    · by_cases q : b = a
      · exact ⟨q, hk⟩
      · exact absurd (if_neg q) z
  · obtain ⟨o, ho⟩ : ∃ o, K.lookup a = some o := by
      cases e : K.lookup a with
      | none => exact absurd e hk
      | some o => exact ⟨o, rfl⟩
    have e := KX a o ho
    rw [ha] at e
    cases e
    refine main (fun _ => Option.none) (fun _ => .inl rfl) ?_ (fun b u z => by cases z) fun b z => absurd rfl z
    exact .inr ⟨_, vs.toArray, _, ho, rfl, rfl, rfl, by rw [List.size_toArray, hi.length]; exact hl, by simpa using rv⟩
theorem walk_law {l : PySem.W.OpenLaw} {n k : Nat} {q : Program} {loose : List Str} {XP : (Str → Option Value) → Heap → Prop} {YP : World → Heap → Prop} {d : DefRec} {K : Params → PySem.W.Frag} {sp : PySem.W.Frag → Sp} {x : Str}
    (hn : l.most = some n) (hn2 : n ≤ sizeLine) (hdf : d.params.defaults = []) (hr : Room k callerA)
    (hY : ∀ (w : World) (h : Heap), YP w h → (K w.params).In h)
    (F : ∀ (w : World) (mg : Str → Option Value) (fa : Addr) (h : Heap), (K w.params).In h → h.Ns mainGlobals mg → mg d.name = some (.ref fa) →
      ∃ fd : FuncData, (∀ (s : Shared) (u : Value), BindsTo s fd ⟨[u], []⟩ [(x, u)]) ∧
        ∀ b : Heap, (K w.params).In b → b.Ns mainGlobals mg → LawAt l.prog w (K w.params) mg b k fa fd [x] (sp (K w.params)))
    (hsp : ∀ (K : PySem.W.Frag) (H : Hp) (a : Addr) (ns : List Int), ns.length ≤ n → Only H → SqL K H a (ns.map V.int) → sp K [.ref a] H (fun v _ => v = .bl true) fun _ _ _ => False) :
    PySem.W.WalkO q loose XP YP l.row.toRowW d [] (fun f vs => PySem.call f vs) := by
  refine Att.attach_call hn hdf fun w s₀ s₁ mg mb fa o pm cd doc a vs ns G Y ho hd hcd hmg hobj hints hlen hg => ?_
  obtain ⟨fd, hb, hF⟩ := F w mg fa _ (hY w _ Y) G.T.g hmg
  exact law_goes (hY w _ Y) G.T.g G.T.b G.T.builtins G.T.nolimit hg hobj hints (Nat.le_trans hlen hn2) hr hF hb fun H hO hS => hsp _ H a ns hlen hO hS
end Cm

/-! defs that are called by name; the hand of draws -/
namespace Cm
open PySem L2 PySem.Spec PyProof.Rows
structure Cl (P : Program) (w : World) (K : PySem.W.Frag) (mg : Str → Option Value) (base : Heap) (k : Nat) (x : Str) (sp : Sp) : Prop where
  ex : ∃ (f : Addr) (fd : FuncData) (ps : List Str), FnOk P w K mg base CX0 k f fd ps sp ∧ mg x = some (.ref f) ∧ PySem.W.keepIn K (.ref f) = true ∧ Binds K fd ps []
/-- where a def of the text stands -/
structure At (K : PySem.W.Frag) (mg : Str → Option Value) (x : Str) (st : Stmt) (ps : List Str) : Prop where
  ex : ∃ (f : Addr) (fd : FuncData), Fun K x x st f fd ∧ mg x = some (.ref f) ∧ Binds K fd ps []
section
variable {P : Program} {w : World} {K : PySem.W.Frag} {mg : Str → Option Value} {base : Heap}
theorem cl_of {x : Str} {st : Stmt} {N ps : List Str} {k : Nat} {sp : Sp} (T : At K mg x st ps) (S : FnScope N ps (defScope st))
    (len : ∀ vs H Q E, sp vs H Q E → vs.length = ps.length)
    (hb : ∀ (f : Addr) (cdv : Value) (A : Around) (outer : List Env) (s : Shared) (H : Hp) (vs : List V) (Q : VK) (E : XK),
      Room k (A.deeper (envOfC x (defScope st) s.heap.objs.size f cdv)) → sp vs H Q E →
      ∃ t, PSs (cxOf CX0 P w K mg base N x (defScope st) f cdv A outer s H E).nox (defBody st) t ∧ t { nx := fun _ H' => Q .non H', rt := Q } (start N vs) H) :
    Cl P w K mg base (k + 1) x sp := by
  obtain ⟨f, fd, F, hm, b⟩ := T.ex
  exact ⟨f, fd, ps, F.ok S len (hb f), hm, F.kp, b⟩
end
section
variable {X : Cx} {j k : Nat} {x : Str} {sp : Sp} {e : Expr} {es : List Expr} {t : TA} {p pos : Pos}
theorem pe_c (c : Cl X.prog X.w X.K X.mg X.base k x sp) (hr : Room j X.A) (hk : k ≤ j) (hg : Gl X x) (ha : PA X (e :: es) t)
    (hdb : (x == ("__debug__" : Str)) = false := by decide) (he : starEach (e :: es) X.env = (false, eval e X.env) :: starEach es X.env := by rfl)
    (hpl : (backTo pos (starEach es X.env)).any (·.1) = false := by rfl) : PE X (.Call (.Name x p) (e :: es) [] pos) (tCall sp [] E0 t) := by
  obtain ⟨f, fd, ps, F, hm, kp, b⟩ := c.ex
  exact pe_call F (hr.mono hk) hg hm kp b .nil pass0 ha hdb he hpl
end

theorem map_at {α β : Type} {f : α → β} {xs : List α} {i : Nat} {y : β} (h : (xs.map f)[i]? = some y) : ∃ x, xs[i]? = some x ∧ y = f x := by
  rw [List.getElem?_map] at h
  obtain ⟨x, a, b⟩ := Option.map_eq_some_iff.mp h
  exact ⟨x, a, b.symm⟩

/-! ### a word between a statement and what follows it -/
def tMid (t u : TS) : TS := fun D σ H => ∃ M : L2.St → Hp → Prop, t { D with nx := M } σ H ∧ ∀ σ' H', M σ' H' → u D σ' H'
theorem pss_mid {X : Cx} {st : Stmt} {rest : List Stmt} {t u : TS} (h1 : PS X st t) (h2 : PSs X rest u) : PSs X (st :: rest) (tMid t u) :=
  ⟨fun pins s σ H D I h => by
    obtain ⟨M, hm, hu⟩ := h
    refine wpAny_execs_cons (thn (h1.run pins s σ H { D with nx := M } I hm) fun fl s1 q => ?_)
    cases fl with
    | next =>
      obtain ⟨σ', H', I', q⟩ := q
      exact h2.run pins s1 σ' H' D I' (hu σ' H' q)
    | ret v => exact q
    | brk => exact q
    | cont => exact q⟩

/-! ### the hand of draws -/
/-- a hand stands at h: the cells, how many were taken, a great cell that is drawn from, a sum -/
def Hand (H : Hp) (h c : Addr) : Prop := ∃ (cells : List Int) (i b t : Int), H h = some (.lst [.ref c, .int i, .int b, .int t]) ∧ H c = some (.lst (cells.map V.int)) ∧ c ≠ h ∧ 0 ≤ i ∧ cells.length ≤ 63
theorem Hand.lst {H : Hp} {h c : Addr} (x : Hand H h c) : ∃ xs, H h = some (.lst xs) := let ⟨_, _, _, _, e, _⟩ := x; ⟨_, e⟩
theorem Hand.same {H H' : Hp} {h c : Addr} (x : Hand H h c) (s : Same H H') : Hand H' h c := by
  obtain ⟨cells, i, b, t, e1, e2, n, z⟩ := x
  exact ⟨cells, i, b, t, s _ _ e1, s _ _ e2, n, z⟩
/-- the hand alone is changed -/
abbrev Kh (h : Addr) : Hp → Hp → Prop := Kp (fun a => a = h)
theorem Hand.kh {H H' : Hp} {h c : Addr} (x : Hand H h c) (s : Same H H') : Kh h H H' := .of_same (fun a m => by subst m; exact x.lst) s
theorem Hand.kr {H : Hp} {h c : Addr} (x : Hand H h c) : Kh h H H := x.kh (Same.refl H)

def spMix : Sp := fun vs H Q _ => ∃ a b : Int, vs = [.int a, .int b] ∧ ∀ n : Int, Q (.int n) H
def spHand (K : PySem.W.Frag) : Sp := fun vs H Q _ => ∃ (a : Addr) (ns : List Int), vs = [.ref a] ∧ SqL K H a (ns.map V.int) ∧ ns.length ≤ 63 ∧ ∀ h c H', Same H H' → H h = Option.none → H c = Option.none → Hand H' h c → Q (.ref h) H'
def spDraw : Sp := fun vs H Q _ => ∃ (h c : Addr) (m : Int), vs = [.ref h, .int m] ∧ Hand H h c ∧ 0 < m ∧ m < 2 ^ 100 ∧ ∀ (n : Int) (H' : Hp), 0 ≤ n → n < m → Kh h H H' → Hand H' h c → Q (.int n) H'
/-- pick out of a list or tuple -/
def spPick (K : PySem.W.Frag) : Sp := fun vs H Q _ => ∃ (h c a : Addr) (xs : List V), vs = [.ref h, .ref a] ∧ Hand H h c ∧ (SqL K H a xs ∧ a ≠ h ∨ SqT K H a xs) ∧ xs ≠ [] ∧ xs.length ≤ 1000 ∧
  ∀ (v : V) (H' : Hp), v ∈ xs → Kh h H H' → Hand H' h c → Q v H'
end Cm

/-! further rules: a tuple read backwards, enumerate over a tuple, sorted(d.keys()) -/
namespace Cm
open PySem L2 PySem.Spec PyProof.Rows
section
variable {prog : Program} {w : World} {A : Around} {E : Value → Shared → Prop} {s : Shared}
theorem adjust_back (n : Nat) : Builtin.Slice.sliceAdjust none none (-1) (n : Int) = ((n : Int) - 1, -1) := by
  unfold Builtin.Slice.sliceAdjust
  simp
theorem places_back (n : Nat) : Builtin.Slice.slicePlaces ((n : Int) - 1) (-1) (-1) = n := by
  unfold Builtin.Slice.slicePlaces
  simp
  try omega
theorem applied_back {sl : Addr} {vs : Value} {n : Nat} {Q : Int × Int × Nat → Shared → Prop} (hs : s.heap.IsSliceOf sl .none .none vs) (ps : IsPart vs (some (-1)))
    (h : Q ((n : Int) - 1, -1, n) s) : wpAny (model prog w) A (Builtin.Slice.sliceApplied (.ref sl) (pure (n : Int))) Q E s := by
  obtain ⟨os, hos, hcs, hds⟩ := id hs
  unfold Builtin.Slice.sliceApplied Builtin.Slice.sliceFields
  refine wpAny_bind (wpAny_bind (wpAny_field hos hds (x := .none) rfl (wpAny_bind (wpAny_field hos hds (x := .none) rfl (wpAny_bind (wpAny_field hos hds (x := vs) rfl (wpAny_pure ?_)))))))
  refine wpAny_bind (HT.slicePart_ ps ?_)
  show wpAny _ _ (if ((-1 : Int) == 0) = true then _ else _) _ _ s
  rw [if_neg (by decide)]
  refine wpAny_bind (slicePart_none (wpAny_bind (slicePart_none (wpAny_bind (wpAny_pure ?_)))))
  show wpAny _ _ (match Builtin.Slice.sliceAdjust none none (-1) (n : Int) with | (lo, hi) => pure (lo, (-1 : Int), Builtin.Slice.slicePlaces lo hi (-1))) _ _ s
  rw [adjust_back]
  show wpAny _ _ (pure ((n : Int) - 1, (-1 : Int), Builtin.Slice.slicePlaces ((n : Int) - 1) (-1) (-1))) _ _ s
  rw [places_back]
  exact wpAny_pure h
theorem filterMap_eqs {α β : Type} {f g : α → Option β} : ∀ l : List α, (∀ x ∈ l, f x = g x) → l.filterMap f = l.filterMap g
  | [], _ => rfl
  | x :: l, h => by
    rw [List.filterMap_cons, List.filterMap_cons, h x List.mem_cons_self, filterMap_eqs l fun y hy => h y (List.mem_cons_of_mem _ hy)]
theorem pick_all (m : List Value) : (List.range m.length).filterMap (fun k => m[k]?) = m := by
  induction m with
  | nil => rfl
  | cons a m ih =>
    rw [List.length_cons, List.range_succ_eq_map, List.filterMap_cons]
    simp only [List.getElem?_cons_zero, List.filterMap_map]
    refine congrArg _ (Eq.trans (filterMap_eqs _ fun k _ => ?_) ih)
    simp
theorem pick_back (xs : Array Value) : ((List.range xs.size).filterMap fun (k : Nat) => xs[((xs.size : Int) - 1 + (k : Int) * -1).toNat]?).toArray = xs.toList.reverse.toArray := by
  have h1 : (List.range xs.size).filterMap (fun (k : Nat) => xs[((xs.size : Int) - 1 + (k : Int) * -1).toNat]?) = (List.range xs.size).filterMap (fun k => xs.toList.reverse[k]?) := by
    refine filterMap_eqs _ fun k hk => ?_
    have hk' : k < xs.size := List.mem_range.mp hk
    have e2 : ((xs.size : Int) - 1 + (k : Int) * -1).toNat = xs.size - 1 - k := by omega
    rw [e2, List.getElem?_reverse (by simpa using hk'), Array.getElem?_toList]
    simp
  have h3 := pick_all xs.toList.reverse
  rw [List.length_reverse, Array.length_toList] at h3
  rw [h1, h3]
theorem getItem_tuple_back {t sl : Addr} {items : Array Value} {vs : Value} {Q : Value → Shared → Prop} (ht : IsTup s.heap t items) (hs : s.heap.IsSliceOf sl .none .none vs) (ps : IsPart vs (some (-1)))
    (h : Q (.ref s.heap.objs.size) { s with heap := s.heap.push { cls := .type "tuple", data := .seq items.toList.reverse.toArray } })
    (hsz : items.size ≤ sizeLine) : wpAny (model prog w) A (getItem (.ref t) (.ref sl)) Q E s := by
  have hok : sizeOk (.seq items.toList.reverse.toArray) := by
    show items.toList.reverse.toArray.size ≤ sizeLine
    rw [List.size_toArray, List.length_reverse, Array.length_toList]
    exact hsz
  obtain ⟨os, hos, hcs, hds⟩ := id hs
  have hTs : s.TypeIs (.ref sl) "slice" := ⟨os, hos, hcs⟩
  unfold getItem
  try with_reducible refine wpAny_holding ?_
  first | refine wpAny_bind (wpAny_pure ?_) | skip
  refine wpAny_bind (wpAny_sequenceKey ht.typeIs (by decide) ?_)
  refine wpAny_bind (wpAny_callSpecial?_slot (name := Str.ofString "__getitem__") ht.typeIs slot_tuple_getitem (wpAny_call_entry slot_tuple_getitem ht.typeIs PyProof.Rows.entry_tuple_getitem ?_ (PyProof.Rows.args_tuple_getitem _ _)))
  show wpAny _ _ (Builtin.Tuple.tupleItemsOf (.ref t) >>= _) _ _ s
  refine wpAny_bind (tupleItemsOf_ ht (wpAny_bind (wpAny_typeOf hTs ?_)))
  rw [if_pos (by decide)]
  refine wpAny_bind (applied_back (n := items.size) hs ps ?_)
  show wpAny _ _ (if ((((items.size : Int) - 1) == 0 && (-1 : Int) == 1 && items.size == items.size) = true) then _ else _) _ _ s
  rw [if_neg (by simp), pick_back]
  first
    | exact wpAny_bind (m := Builtin.Tuple.tupleExact _) (wpAny_newObj_type (wpAny_pure ⟨_, rfl, wpAny_pure h⟩) hok)
    | exact wpAny_bind (m := Builtin.Tuple.tupleExact _) (wpAny_newObj_type (wpAny_bind (wpAny_pure (wpAny_pure ⟨_, rfl, wpAny_pure h⟩))) hok)
end
section
variable {X : Cx}
def tRevT (K : PySem.W.Frag) (te : TE) : TE := fun σ H Q => te σ H fun x H1 => ∃ a xs, x = .ref a ∧ SqT K H1 a xs ∧ ∀ p, H1 p = Option.none → Q (.ref p) (upd H1 p (.tup xs.reverse))
theorem pe_revT {e : Expr} {te : TE} {k : Nat} {p1 p2 p3 pos : Pos} (he : PE X e te) : PE X (.Subscript e (.Slice none none (some (.UnaryOp .USub (.Constant (.int 1) k p1) p2)) p3) pos) (tRevT X.K te) := by
  refine ⟨fun pins s σ H Q I h => ?_⟩
  refine Subscript_ (thn (he.run pins s σ H _ I h) fun v s1 hz => ?_)
  obtain ⟨x, H1, I1, r1, a, xs, ex, hx, q⟩ := hz
  subst ex
  cases r1
  have hst : PO X (some (.UnaryOp .USub (.Constant (.int 1) k p1) p2)) (tPart (tUn (rU fun i => .int (-i)) (tC (.int 1)))) := po_some (pe_un un_neg pe_int)
  refine wpAny_Slice (thn (po_none.run pins s1 σ H1 (fun o H2 => o = none ∧ H2 = H1) I1 ⟨rfl, rfl⟩) fun vl s2 hz => ?_)
  obtain ⟨l, H2, I2, pl, el, e2⟩ := hz
  subst el e2
  refine thn (po_none.run pins s2 σ H2 (fun o H3 => o = none ∧ H3 = H2) I2 ⟨rfl, rfl⟩) fun vu s3 hz => ?_
  obtain ⟨u, H3, I3, pu, eu, e3⟩ := hz
  subst eu e3
  refine thn (hst.run pins s3 σ H3 (fun o H4 => o = some (-1) ∧ H4 = H3) I3 ⟨1, rfl, -1, rfl, rfl, rfl⟩) fun vs s4 hz => ?_
  obtain ⟨o, H4, I4, ps, eo, e4⟩ := hz
  subst eo e4
  cases pl
  cases pu
  have I5 : Inv X pins σ H4 { s4 with heap := s4.heap.push { cls := .type "slice", data := .fields #[.none, .none, vs] } } := I4.kept (t' := s4.toks) fun b ob q => Heap.get?_push_of_some _ q
  obtain ⟨its, r, ht, hz⟩ := I5.tuple hx
  have hlen := r.length
  show wpAny (model X.prog X.w) X.A (subscriptTail e (.Slice none none (some (.UnaryOp .USub (.Constant (.int 1) k p1) p2)) p3) (.ref a) (.ref s4.heap.objs.size)) (EP X pins σ Q) X.xe
    { s4 with heap := s4.heap.push { cls := .type "slice", data := .fields #[.none, .none, vs] } }
  refine tail_any (ops := [.ref a, .ref s4.heap.objs.size]) ht.typeIs slot_tuple_getitem.lookup ?_ (by with_unfolding_all rfl)
  refine getItem_tuple_back ht (Heap.IsSliceOf.new _ .none .none vs) ps ?_ (by rw [List.size_toArray]; omega)
  refine ⟨.ref _, _, I5.laid (t' := s4.toks) (o := .tup xs.reverse) (fun b ob q => Heap.get?_push_of_some _ q) (Nat.le_refl _) ?_, rfl, q _ (I5.hok.fresh (Nat.le_refl _))⟩
  exact ⟨by rw [List.length_reverse]; exact hz, its.reverse, r.reverse, IsTup.new _ _⟩
end

/-! ### enumerate over a tuple -/
theorem enum_new1 {v : Value} {o : Obj} {G : Heap → Prop} (B : Begins v o G) :
    Meets (Builtin.«enumerate.__new__» ⟨[.type "enumerate", v], []⟩) (fun _ R s => G s.heap ∧
      R (.ok (.ret (.ref (s.heap.push o).objs.size))) { s with heap := (s.heap.push o).push { cls := .type "enumerate", data := .fields #[.none, .bool false, .ref s.heap.objs.size, rawInt 0, .none, .none] } }) :=
  .of_wp fun prog w A R s h => by
    obtain ⟨hp, g, d, tk, os⟩ := s
    obtain ⟨h1, h2⟩ := h
    have hsub := sub_enumerate
    have it : ∀ {A' : Around} {E : Value → Shared → Prop} {Q : Value → Shared → Prop}, Q (.ref hp.objs.size) ⟨hp.push o, g, d, tk, os⟩ → wpAny (model prog w) A' (pyIter v) Q E ⟨hp, g, d, tk, os⟩ :=
      fun q => B.iter prog w _ _ ⟨hp, g, d, tk, os⟩ _ h1 q
    wp_walk using it
    refine wpAny_stack_any fun st => wpAny_pure ?_
    split
    · rename_i c _ _ _ _ _
      cases (c == Value.type "enumerate") <;> (wp_walk using it; exact ⟨_, rfl, h2⟩)
    · wp_walk using it
      exact ⟨_, rfl, h2⟩
section
variable {prog : Program} {w : World} {A : Around} {E : Value → Shared → Prop} {s : Shared}
theorem call_enum1 {v : Value} {o : Obj} {G : Heap → Prop} {Q : Value → Shared → Prop} (B : Begins v o G) (h1 : G s.heap)
    (h : ∀ h', IsEnum h' (s.heap.objs.size + 1) s.heap.objs.size 0 .none → h'.get? s.heap.objs.size = some o → h'.objs.size = s.heap.objs.size + 2 →
      (∀ b o, s.heap.get? b = some o → h'.get? b = some o) → Q (.ref (s.heap.objs.size + 1)) { s with heap := h' }) :
    wpAny (model prog w) A (call (.type "enumerate") [v]) Q E s := by
  refine callType_new F.called_enumerate (by decide) (F.typeCall_enumerate_1 _) (F.newCall_enumerate_1 _) (fun obj => F.args_object_init_2 obj _) F.entry_enumerate_new (enum_new1 B) ⟨h1, ?_⟩
  have hz : (s.heap.push o).objs.size = s.heap.objs.size + 1 := Heap.size_push ..
  rw [hz]
  have he : IsEnum ((s.heap.push o).push { cls := .type "enumerate", data := .fields #[.none, .bool false, .ref s.heap.objs.size, rawInt 0, .none, .none] }) (s.heap.objs.size + 1) s.heap.objs.size 0 .none := by
    have e := Heap.get?_push_size (s.heap.push o) (o := { cls := .type "enumerate", data := .fields #[.none, .bool false, .ref s.heap.objs.size, rawInt 0, .none, .none] }) rfl
    rw [hz] at e
    exact e
  exact ⟨⟨_, he, rfl⟩, h _ he (Heap.get?_push_of_some _ (Heap.get?_push_size _ B.free)) (by rw [Heap.size_push, hz]) fun b o x => Heap.get?_push_of_some _ (Heap.get?_push_of_some _ x)⟩
end
/-- the tuple at a, each item in a new pair with its number -/
def IteT (K : PySem.W.Frag) (a : Addr) : It :=
  ⟨fun i H => ∃ (xs : List V) (x : V), SqT K H a xs ∧ xs[i]? = some x, fun i H v H' => ∃ T x, v = .ref T ∧ H T = Option.none ∧ H' = upd H T (.tup [.int (i : Nat), x]) ∧ ∀ xs, SqT K H a xs → xs[i]? = some x,
    fun i H => ∃ xs : List V, SqT K H a xs ∧ xs.length ≤ i⟩
theorem turn_enumT {P : Program} {w : World} {K : PySem.W.Frag} {elts : List Expr} {kk : Nat} {tpos : Pos} (a e it : Addr) :
    Turn P w K (.Tuple elts kk tpos) (IteT K a) [e, it] e (fun i h => (∃ old, IsEnum h e it ((i : Nat) : Int) old) ∧ h.IsTupleIter it a i ∧ e ≠ it ∧ a ≠ it ∧ a ≠ e) where
  mem := by simp
  obj := fun i h st b hb => by
    obtain ⟨⟨old, he⟩, ⟨o, ho, hc, hd⟩, _⟩ := st
    rcases (show b = e ∨ b = it by simpa using hb) with z | z
    · rw [z]; exact ⟨_, he, fun v q => nomatch q⟩
    · rw [z]; exact ⟨o, ho, fun v q => by rw [hd] at q; cases q⟩
  keep := fun i h h' st k => let ⟨⟨old, he⟩, hi, hne⟩ := st; ⟨⟨old, k e (by simp) _ he⟩, hi.at fun o q => k it (by simp) o q, hne⟩
  item := by
    intro X hP hw hK hc i pins s σ H E I hf st hg
    subst hP hw hK
    obtain ⟨⟨old, he⟩, hit, hne, hai, hae⟩ := st
    obtain ⟨xs, x, hq, hx⟩ := hg
    obtain ⟨its, rv, p, hz⟩ := I.tuple hq
    obtain ⟨u, hu, ru⟩ := rv.get hx
    have hel : e < s.heap.objs.size := Heap.lt_size he
    have hil : it < s.heap.objs.size := by obtain ⟨_, q, _⟩ := hit; exact Heap.lt_size q
    have hlt : i < its.toArray.size := by
      rw [List.size_toArray]
      exact (List.getElem?_eq_some_iff.mp hu).1
    refine wpAny_pyNext_enum_itemD (Draws.tuple (prog := X.prog) (w := X.w) (A := X.A.in1) (I.ok.hd hc) it a hai its.toArray) he ⟨hit, p⟩ hlt hne (by simp [hne, Ne.symm hae]) fun y h' tk hy ho hst hT hsz hk => ?_
    have ey : y = u := by
      have q : its[i]? = some y := by simpa using hy
      rw [hu] at q
      exact (Option.some.inj q).symm
    subst ey
    refine ⟨_, rfl, wpAny_letOwnedTupleGo_enum (s := { s with heap := h', toks := tk + 1 }) ho fun h'' he' sb => ?_⟩
    have hT2 : h''.get? s.heap.objs.size = some { cls := .type "tuple", data := .seq #[.int i tk, y] } := (sb.2 _ (Nat.ne_of_gt hel)).trans hT
    have new : ObjOk X.prog X.w (upd H s.heap.objs.size (.tup [.int (i : Nat), x])) h'' s.heap.objs.size (.tup [.int (i : Nat), x]) :=
      ⟨by show 2 ≤ sizeLine; decide, [.int i tk, y], .cons ⟨_, rfl⟩ (.cons ru .nil), ⟨_, hT2, rfl, _, rfl⟩⟩
    have I1 : Inv X pins σ (upd H s.heap.objs.size (.tup [.int (i : Nat), x])) { s with heap := h'', toks := tk + 1 } :=
      I.turnedNew (ch := [e, it]) (fun b ob hb q => (sb.2 b (fun z => hb (by simp [z]))).trans (hk b ob (fun z => hb (by simp [z])) (fun z => hb (by simp [z])) q)) hf (Nat.le_refl _) new
    refine ⟨.ref s.heap.objs.size, _, I1, rfl, ⟨_, x, rfl, I.hok.fresh (Nat.le_refl _), rfl, fun ys hy => by rw [I.tuple_inj hy hq]; exact hx⟩, ⟨⟨y, ?_⟩, hst.1.at fun o q => (sb.2 it (Ne.symm hne)).trans q, hne, hai, hae⟩, fun b hb => ?_⟩
    · have e1 : ((i + 1 : Nat) : Int) = (i : Int) + 1 := by omega
      rw [e1]; exact he'
    · have hb' : b < s.heap.objs.size := by
        rcases (show b = e ∨ b = it by simpa using hb) with z | z
        · rw [z]; exact hel
        · rw [z]; exact hil
      rw [upd_ne (Nat.ne_of_lt hb')]
      exact (hf b hb).1
  done := by
    intro X hP hw hK hc i pins s σ H E I hf st hg
    subst hP hw hK
    obtain ⟨⟨old, he⟩, hit, hne, hai, hae⟩ := st
    obtain ⟨xs, hq, hx⟩ := hg
    obtain ⟨its, rv, p, hz⟩ := I.tuple hq
    obtain ⟨f0, f1, f2, f3, f4, f5⟩ := hf it (by simp)
    have hl := rv.length
    have D : Draws X.prog X.w X.A.in1 it [it, a] i (fun _ _ => False) (fun j h => j = i ∧ h.IsTupleIter it a i ∧ h.IsTuple a its.toArray) :=
      { live := fun _ _ st => let ⟨o, ho, _⟩ := st.2.1; ⟨o, ho⟩
        frame := fun _ _ _ st hk => ⟨st.1, st.2.1.at fun o e => hk it (by simp) o e, st.2.2.at fun o e => hk a (by simp) o e⟩
        item := fun j s Q E hj st => absurd hj (by rw [st.1]; exact Nat.lt_irrefl _)
        done := fun s Q E st hE => wpAny_nextOf_tuple_end (I.ok.hd hc) st.2.1 st.2.2 (by simp; omega) hE }
    exact wpAny_pyNext_enum_endD D he ⟨rfl, hit, p⟩ fun h' eb => ⟨rfl, I.turned (t' := s.toks) (fun b o hb q => eb b o hb q) f0 f1 f3 f4 f5⟩
  self := fun A i s Q E st h => let ⟨⟨_, he⟩, _⟩ := st; wpAny_pyIter_enum he h
def iEnumT (K : PySem.W.Frag) (ta : TA) : TI := fun σ H R => ta σ H fun vs H1 => ∃ a xs, vs = [.ref a] ∧ SqT K H1 a xs ∧ R (IteT K a) H1
theorem pi_enumT {X : Cx} {e : Expr} {ta : TA} {p pos tpos : Pos} {elts : List Expr} {kk : Nat} (hg : Gl X "enumerate") (hm : X.mg "enumerate" = none) (ha : PA X [e] ta) (hs : starEach [e] X.env = [(false, eval e X.env)] := by rfl) :
    PI X (.Tuple elts kk tpos) (.Call (.Name "enumerate" p) [e] [] pos) (iEnumT X.K ta) := by
  refine ⟨fun pins s σ H R I h => ?_⟩
  refine Call_ (ld_blt I hg hm boot_enumerate (PyProof.Rows.callWith_type1 (thn (ha.run pos pins s σ H _ I h) fun us s1 hz => ?_) hs rfl))
  obtain ⟨vs, H1, I1, r1, a, xs, ex, hq, q⟩ := hz
  subst ex
  cases r1 with
  | cons r rr =>
    cases rr
    cases r
    obtain ⟨its, rv, p', hz⟩ := I1.tuple hq
    refine call_enum1 (begins_tuple a its.toArray) p' fun h' he hit hsz hk => wpAny_pyIter_enum he ?_
    have hal : a < s1.heap.objs.size := p'.lt
    refine ⟨s1.heap.objs.size + 1, [s1.heap.objs.size + 1, s1.heap.objs.size], _, _, H1, rfl, I1.kept (t' := s1.toks) hk, turn_enumT a (s1.heap.objs.size + 1) s1.heap.objs.size,
      ⟨⟨.none, he⟩, ⟨_, hit, rfl, rfl⟩, Nat.succ_ne_self _, Nat.ne_of_lt hal, Nat.ne_of_lt (Nat.lt_succ_of_lt hal)⟩, fun b hb => ?_, q⟩
    have hle : s1.heap.objs.size ≤ b := by
      rcases (show b = s1.heap.objs.size + 1 ∨ b = s1.heap.objs.size by simpa using hb) with z | z
      · rw [z]; exact Nat.le_add_right _ _
      · rw [z]; exact Nat.le_refl _
    exact I1.fpOk hle (I1.hok.fresh hle)
theorem walk_enumT {K : PySem.W.Frag} {a : Addr} {xs : List V} : Walk (IteT K a) xs.length (fun H => SqT K H a xs) (YPair (fun i => some (.int (i : Nat))) (fun i => xs[i]?)) := by
  refine ⟨fun i _ hi q => ⟨xs, xs[i], q, by simp [hi]⟩, fun _ q => ⟨xs, q, Nat.le_refl _⟩, fun i H v H' _ q y => ?_⟩
  obtain ⟨T, x, h1, h2, h3, h4⟩ := y
  exact ⟨T, .int (i : Nat), x, h1, h2, h3, rfl, h4 xs q⟩
theorem walk_zipT {K : PySem.W.Frag} {a b : Addr} {xs ys : List V} {n : Nat} (hn : n = min xs.length ys.length) : Walk (RZ.ItzT K a b) n (fun H => SqT K H a xs ∧ SqT K H b ys) (YPair (fun i => xs[i]?) (fun i => ys[i]?)) := by
  subst hn
  refine ⟨fun i _ hi q => ?_, fun _ q => ⟨xs, ys, q.1, q.2, by omega⟩, fun i H v H' _ q y => ?_⟩
  · have h1 : i < xs.length := by omega
    have h2 : i < ys.length := by omega
    exact ⟨xs, ys, xs[i], ys[i], q.1, q.2, by simp [h1], by simp [h2]⟩
  · obtain ⟨T, x, z, h1, h2, h3, h4, h5⟩ := y
    exact ⟨T, x, z, h1, h2, h3, h4 xs q.1, h5 ys q.2⟩

/-! ### sorted(d.keys()) of a dict of int keys -/
section
variable {X : Cx}
/-- the view r of the keys of the dict at d -/
def ViewO (r d : Addr) : HO := .ext fun h => PySem.W.KdlKeysView h r d
def tKeys (td : TE) : TE := fun σ H Q => td σ H fun x H1 => ∃ d, x = .ref d ∧ (∃ kvs, H1 d = some (.dK kvs)) ∧ ∀ r, H1 r = Option.none → Q (.ref r) (upd H1 r (ViewO r d))
theorem pe_keys {e : Expr} {td : TE} {apos cpos : Pos} (he : PE X e td) (hbase : attributeBase e "keys" X.env (eval e X.env) = eval e X.env := by rfl) (hline : (apos.endLine == cpos.line) = true := by rfl) :
    PE X (.Call (.Attribute e "keys" apos) [] [] cpos) (tKeys td) := by
  refine ⟨fun pins s σ H Q I h => ?_⟩
  refine wpAny_Call_method (T := "dict") (id := "dict.keys") hbase rfl hline F.plainAttrs_dict F.slot_dict_keys F.type_dict_keys (thn (he.run pins s σ H _ I h) fun u s1 hz => ?_)
  obtain ⟨x, H1, I1, rx, d, ex, ⟨kvs, hd⟩, q⟩ := hz
  subst ex
  obtain rfl : u = Value.ref d := rx
  obtain ⟨z, lo, vs, rel, dd⟩ := dk_of I1.hok hd
  refine ⟨dd.typeIs, dd.mapOf.noDict, ?_⟩
  show wpAny _ _ (callWith cpos (.builtin "dict.keys") [.ref d] [] []) _ X.xe s1
  have fin : EP X pins σ Q (.ref s1.heap.objs.size) { s1 with heap := s1.heap.push { cls := .type "dict_keys", data := .fields #[.ref d] } } := by
    refine ⟨.ref s1.heap.objs.size, upd H1 s1.heap.objs.size (ViewO s1.heap.objs.size d), I1.laid (t' := s1.toks) (fun b u e => Heap.get?_push_of_some _ e) (Nat.le_refl _) ?_, rfl, q _ (I1.hok.fresh (Nat.le_refl _))⟩
    refine ⟨⟨_, Heap.get?_push_size _ rfl, rfl, rfl⟩, ⟨_, Heap.get?_push_size _ rfl⟩, fun h1 h2 a b => ?_⟩
    obtain ⟨o, ho, c⟩ := a
    exact ⟨o, b o ho, c⟩
  exact method_meetsIn F.slot_dict_keys F.entry_dict_keys rfl (PySem.evalArgs_none ⟨rfl, dd.typeIs, F.args_dict_keys_1 _, _, PySem.W.kdl_meets_keys (mixKind X.prog X.w) d lo, ⟨vs, dd⟩, fin⟩)
theorem call_sortedK (hcalm : X.calm = true) : CallR X (.builtin "sorted") (fun xs H Q => ∃ (r d : Addr) (kvs : List (Key × V)) (ks : List Int), xs = [.ref r] ∧ H r = some (ViewO r d) ∧ H d = some (.dK kvs) ∧ kvs.map (·.1) = ks.map Sum.inl ∧ ks.length < 64 ∧
    ∀ (ys : List Int) (p : Addr), ys.Perm ks → ys.Pairwise (· ≤ ·) → H p = Option.none → Q (.ref p) (upd H p (.lst (ys.map V.int)))) := by
  intro pins s σ H xs us Q I rr q
  obtain ⟨r, d, kvs, ks, ex, hr, hd, hks, h64, q⟩ := q
  subst ex
  obtain ⟨u, eu, rx⟩ := vals1 rr
  subst eu
  cases rx
  have hv : PySem.W.KdlKeysView s.heap r d := (I.hok r _ hr).1
  obtain ⟨z, lo, vs, rel, dd⟩ := dk_of I.hok hd
  obtain ⟨ep, hat⟩ := dd.dictAt
  have hkeys : vs.map (·.1) = ks.map Sum.inl := rel.keys.symm.trans hks
  have hl : vs.length = ks.length := by simpa using congrArg List.length hkeys
  have h16 : vs.length ≤ sizeLine := by rw [hl, sizeLine_eq]; omega
  refine Calls.call_function_entry PyProof.Rows.kind_sorted PyProof.Rows.plain_sorted PyProof.Rows.entry_sorted (PyProof.Rows.args_sorted1 _) ?_
  unfold Builtin.«sorted»
  refine wpAny_bind (m := checkCount "sorted" 1 1 _) (wpAny_pure ?_)
  refine wpAny_bind (PySem.W.kdu_collect (A := X.A.in1) (PySem.W.kdl_keys (knd := mixKind X.prog X.w) (r := r) (d := d) (kvs := vs) (ep := ep)) (I.ok.hd hcalm) ⟨hv, hat⟩ h16 fun h' tk acc hk hacc => ?_)
  have hal : acc.toList.length = ks.length := by rw [Array.length_toList, hacc.1, hl]
  have hS : IntsAre acc.toList ks := ints_each hal fun j v e => by
    obtain ⟨k, x, e1, e2⟩ := hacc.2 j v (by rw [← Array.getElem?_toList]; exact e)
    have e3 : (vs.map (·.1))[j]? = some k := by rw [List.getElem?_map, e1]; rfl
    rw [hkeys, List.getElem?_map] at e3
    obtain ⟨y, ey, e4⟩ := Option.map_eq_some_iff.mp e3
    subst e4
    rcases keyIs_shape (show keyIs (Sum.inl y) v = true from e2) with ⟨i, t, ek, ev⟩ | ⟨_, t, ek, ev⟩
    · cases ek
      exact ⟨y, t, ey, ev⟩
    · cases ek
  have I1 : Inv X pins σ H { s with heap := h', toks := tk } := I.kept hk
  refine wpAny_bind (wpAny_newList ?_ (by rw [hal, sizeLine_eq]; omega))
  have hoL : (h'.push (seqObj "list" acc.toList.toArray 0)).get? h'.objs.size = some (seqObj "list" acc.toList.toArray 0) := Heap.get?_push_size _ rfl
  show wpAny _ _ _ _ _ { s with heap := h'.push (seqObj "list" acc.toList.toArray 0), toks := tk }
  refine wpAny_bind (wpAny_holding (wpAny_call_entry PyProof.Rows.slot_list_sort ⟨_, hoL, rfl⟩ PyProof.Rows.entry_list_sort
    (PyProof.Rows.list_sort_tree (s := { s with heap := h'.push (seqObj "list" acc.toList.toArray 0), toks := tk }) hoL hS (by rw [hal]; exact h64) fun out ys g1 g2 g3 => ⟨_, rfl, ?_⟩) (PyProof.Rows.args_list_sort _)))
  obtain ⟨e', he'⟩ := PyProof.Rows.sortedHeap_at (vs := acc.toList) (out := out) hoL
  have hlen : (ys.map V.int).length ≤ sizeLine := by
    rw [List.length_map, g2.length_eq]
    exact Nat.le_trans (Nat.le_of_lt h64) (by decide)
  refine wpAny_pure ⟨_, rfl, .ref h'.objs.size, upd H h'.objs.size (.lst (ys.map V.int)), I1.laid (t' := tk) (fun b u e => ?_) (Nat.le_refl _)
    (show ObjOk X.prog X.w _ _ _ (.lst (ys.map V.int)) from ⟨hlen, out.toList, e', vals_of_ints g1, by rw [Array.toArray_toList]; exact he'⟩), rfl, q ys _ g2 g3 (I1.hok.fresh (Nat.le_refl _))⟩
  have hb : b < h'.objs.size := Heap.lt_size e
  rw [PyProof.Rows.sortedHeap_old (Nat.ne_of_lt hb) (by rw [size_push']; exact Nat.lt_succ_of_lt hb)]
  exact Heap.get?_push_of_some _ e
end
end Cm

/-! a dict of things by births -/
namespace Cm
open PySem L2
/-- a thing: a word, then data without lists -/
structure Th (d : PyData) : Prop where
  ex : ∃ (wd : Str) (r : List PyData), d = .tuple (.str wd :: r)
  fl : flatD d = true
  ok : okD d = true
  dp : d.depth ≤ 8
  wt : d.weight ≤ 4000
/-- the dict at d holds es -/
structure ThAt (K : PySem.W.Frag) (H : Hp) (d : Addr) (es : List (Int × PyData)) (kvs : List (Key × V)) : Prop where
  at_ : H d = some (.dK kvs)
  ks : kvs.map (·.1) = es.map (fun e => Sum.inl e.1)
  vs : DpAll K H (kvs.map (·.2)) (es.map (·.2))
  th : ∀ e ∈ es, Th e.2
def thg (es : List (Int × PyData)) (b : Int) : PyData := ((es.find? fun e => decide (e.1 = b)).map (·.2)).getD .none
def wordD : PyData → Str
  | .tuple (.str x :: _) => x
  | _ => ""
def word (es : List (Int × PyData)) (b : Int) : Str := wordD (thg es b)
theorem th_find {K : PySem.W.Frag} {H : Hp} (b : Int) : ∀ (es : List (Int × PyData)) (kvs : List (Key × V)), kvs.map (·.1) = es.map (fun e => (Sum.inl e.1 : Key)) → DpAll K H (kvs.map (·.2)) (es.map (·.2)) →
    b ∈ es.map (·.1) → ∃ v, valV kvs (Sum.inl b) = some v ∧ Dp K H v (thg es b) ∧ (b, thg es b) ∈ es
  | [], _, _, _, m => by simp at m
  | e :: es, kvs, hk, hv, m => by
    cases kvs with
    | nil => simp at hk
    | cons a kvs =>
      simp only [List.map_cons, List.cons.injEq] at hk
      cases hv with
      | cons h1 h2 =>
        by_cases q : e.1 = b
        · refine ⟨a.2, ?_, ?_, ?_⟩
          · unfold valV
            rw [List.find?_cons_of_pos (by rw [hk.1, q]; simp)]
            rfl
          · have : thg (e :: es) b = e.2 := by
              unfold thg
              rw [List.find?_cons_of_pos (by simp [q])]
              rfl
            rw [this]
            exact h1
          · have : thg (e :: es) b = e.2 := by
              unfold thg
              rw [List.find?_cons_of_pos (by simp [q])]
              rfl
            rw [this, ← q]
            exact List.mem_cons_self
        · have m' : b ∈ es.map (·.1) := by
            simp only [List.map_cons, List.mem_cons] at m
            rcases m with m | m
            · exact absurd m.symm q
            · exact m
          obtain ⟨v, g1, g2, g3⟩ := th_find b es kvs hk.2 h2 m'
          have e2 : thg (e :: es) b = thg es b := by
            unfold thg
            rw [List.find?_cons_of_neg (by simpa using q)]
          refine ⟨v, ?_, by rw [e2]; exact g2, by rw [e2]; exact List.mem_cons_of_mem _ g3⟩
          unfold valV at g1 ⊢
          rw [List.find?_cons_of_neg (by rw [hk.1]; simpa using q)]
          exact g1
theorem ThAt.get {K : PySem.W.Frag} {H : Hp} {d : Addr} {es : List (Int × PyData)} {kvs : List (Key × V)} (x : ThAt K H d es kvs) {b : Int} (m : b ∈ es.map (·.1)) :
    ∃ (p : Addr) (its : List V), DGet H d (.int b) (some (.ref p)) ∧ SqT K H p its ∧ atI its 0 = some (.str (word es b)) ∧ Dp K H (.ref p) (thg es b) ∧ Th (thg es b) := by
  obtain ⟨v, h1, h2, h3⟩ := th_find b es kvs x.ks x.vs m
  have t : Th (thg es b) := x.th _ h3
  obtain ⟨wd, r, ed⟩ := t.ex
  have h2' := h2
  have e3 : word es b = wd := by
    unfold word
    rw [ed]
    rfl
  rw [ed] at h2'
  cases h2' with
  | @tup a its ds hs ha =>
    refine ⟨a, its, ?_, hs, ?_, by rw [ed]; exact .tup hs ha, t⟩
    · have q := DGet.k (k := Sum.inl b) x.at_
      rw [h1] at q
      exact q
    · rw [e3]
      cases ha with
      | cons q1 q2 =>
        cases q1
        exact atI_nat (j := 0) rfl
theorem putK_end {kvs : List (Key × V)} {k : Key} {v : V} (h : ∀ p ∈ kvs, p.1 ≠ k) : putK kvs k v = kvs ++ [(k, v)] := by
  unfold putK
  rw [if_neg]
  intro q
  obtain ⟨p, hp, e⟩ := List.any_eq_true.mp q
  exact h p hp (of_decide_eq_true e)
theorem decS {x y : Str} : decide (V.str x = V.str y) = decide (x = y) := by
  by_cases q : x = y
  · rw [q]; simp
  · rw [decide_eq_false q, decide_eq_false (fun z => q (V.str.inj z))]
theorem ThAt.same {K : PySem.W.Frag} {H H' : Hp} {d : Addr} {es : List (Int × PyData)} {kvs : List (Key × V)} (x : ThAt K H d es kvs) (s : Same H H') : ThAt K H' d es kvs :=
  ⟨s _ _ x.at_, x.ks, dps_same s _ _ x.vs, x.th⟩
theorem flatDs_of : ∀ ds : List PyData, (∀ d ∈ ds, flatD d = true) → flatDs ds = true
  | [], _ => rfl
  | d :: ds, h => by simp [flatDs, h d List.mem_cons_self, flatDs_of ds fun x hx => h x (List.mem_cons_of_mem _ hx)]
theorem ThAt.fl {K : PySem.W.Frag} {H : Hp} {d : Addr} {es : List (Int × PyData)} {kvs : List (Key × V)} (x : ThAt K H d es kvs) : flatDs (es.map (·.2)) = true :=
  flatDs_of _ fun z hz => by
    obtain ⟨e, he, rfl⟩ := List.mem_map.mp hz
    exact (x.th e he).fl
theorem ThAt.kp {M : Addr → Prop} {K : PySem.W.Frag} {H H' : Hp} {d : Addr} {es : List (Int × PyData)} {kvs : List (Key × V)} (x : ThAt K H d es kvs) (k : Kp M H H') (n : ¬ M d) : ThAt K H' d es kvs :=
  ⟨k.st _ _ n x.at_, x.ks, dps_keep (fun _ _ h => k.tup h) _ _ x.fl x.vs, x.th⟩
theorem wt_int {i : Int} (h : i.natAbs < 10 ^ 12) : PyData.weight (.int i) ≤ 64 := by
  simp only [PyData.weight]
  split
  · omega
  · rename_i q
    have q' : i.natAbs ≠ 0 := by
      intro z
      apply q
      simp
      omega
    have := (Nat.log2_lt q').mpr (show i.natAbs < 2 ^ 63 from Nat.lt_of_lt_of_le h (by decide))
    omega
theorem ThAt.snoc {K : PySem.W.Frag} {H : Hp} {d : Addr} {es : List (Int × PyData)} {kvs : List (Key × V)} (x : ThAt K H d es kvs) {b : Int} {v : V} {t : PyData} (n : b ∉ es.map (·.1)) (hv : Dp K H v t) (ht : Th t) :
    ThAt K (upd H d (.dK (putK kvs (Sum.inl b) v))) d (es ++ [(b, t)]) (putK kvs (Sum.inl b) v) := by
  have e1 : putK kvs (Sum.inl b) v = kvs ++ [(Sum.inl b, v)] := putK_end fun p hp q => n (by
    have : p.1 ∈ kvs.map (·.1) := List.mem_map.mpr ⟨p, hp, rfl⟩
    rw [x.ks] at this
    obtain ⟨e, he, e2⟩ := List.mem_map.mp this
    rw [q] at e2
    exact List.mem_map.mpr ⟨e, he, Sum.inl.inj e2⟩)
  have keep : ∀ a xs, SqT K H a xs → SqT K (upd H d (.dK (putK kvs (Sum.inl b) v))) a xs := fun a xs h => by
    rcases h with (h | ⟨o, h⟩) | h
    · exact .inl (.inl (by rw [upd_ne (ne_of h x.at_ (by intro z; cases z))]; exact h))
    · exact .inl (.inr ⟨o, by rw [upd_ne (ne_of h x.at_ (by intro z; cases z))]; exact h⟩)
    · exact .inr h
  refine ⟨upd_same, ?_, ?_, ?_⟩
  · rw [e1, List.map_append, List.map_append, x.ks]
    rfl
  · have h1 := dps_keep keep _ _ x.fl x.vs
    have h2 := dp_keep keep _ _ ht.fl hv
    rw [show (putK kvs (Sum.inl b) v).map (·.2) = kvs.map (·.2) ++ [v] by rw [e1, List.map_append]; rfl, List.map_append]
    exact DpAll.snoc h2 h1
  · intro e he
    rcases List.mem_append.mp he with he | he
    · exact x.th e he
    · cases List.mem_singleton.mp he
      exact ht
theorem Kp.mut {M : Addr → Prop} {H H' : Hp} {d : Addr} {o : HO} (k : Kp M H H') (hd : H d = Option.none) : Kp M H (upd H' d o) :=
  ⟨fun a u n e => by
    rw [upd_ne (ne_of_none e hd)]
    exact k.st a u n e, k.l1, fun a m => by
    have q : a ≠ d := fun q => k.m_of hd (q ▸ m)
    rw [upd_ne q]
    exact k.l2 a m⟩
theorem Hand.put {H : Hp} {h c d : Addr} {o : HO} (x : Hand H h c) (n : ∀ xs, H d ≠ some (.lst xs)) : Hand (upd H d o) h c := by
  obtain ⟨cells, i, b, t, e1, e2, q⟩ := x
  refine ⟨cells, i, b, t, ?_, ?_, q⟩
  · rw [upd_ne (fun z => n _ (z ▸ e1))]
    exact e1
  · rw [upd_ne (fun z => n _ (z ▸ e2))]
    exact e2
theorem Hand.puts {H : Hp} {h c d : Addr} {o : HO} (x : Hand H h c) (n1 : d ≠ h) (n2 : d ≠ c) : Hand (upd H d o) h c := by
  obtain ⟨cells, i, b, t, e1, e2, q⟩ := x
  exact ⟨cells, i, b, t, by rw [upd_ne (Ne.symm n1)]; exact e1, by rw [upd_ne (Ne.symm n2)]; exact e2, q⟩
theorem Hand.there {H : Hp} {h c d : Addr} (x : Hand H h c) (n : H d = Option.none) : d ≠ h ∧ d ≠ c := by
  obtain ⟨cells, i, b, t, e1, e2, q⟩ := x
  exact ⟨(ne_of_none e1 n).symm, (ne_of_none e2 n).symm⟩
theorem Hand.ne {H : Hp} {h c d : Addr} (x : Hand H h c) (n : ∀ xs, H d ≠ some (.lst xs)) : d ≠ h := fun z => by
  obtain ⟨xs, e⟩ := x.lst
  exact n xs (z ▸ e)
/-- 1 .. n -/
def births (n : Nat) : List Int := (List.range n).map fun (i : Nat) => (i : Int) + 1
theorem births_succ (n : Nat) : births (n + 1) = births n ++ [(n : Int) + 1] := by
  unfold births
  rw [List.range_succ, List.map_append]
  rfl
theorem births_mem {n : Nat} {b : Int} : b ∈ births n ↔ 1 ≤ b ∧ b ≤ n := by
  unfold births
  rw [List.mem_map]
  constructor
  · rintro ⟨i, hi, rfl⟩
    have := List.mem_range.mp hi
    omega
  · intro q
    exact ⟨(b - 1).toNat, List.mem_range.mpr (by omega), by omega⟩
/-- a new thing is put at the next birth -/
theorem things_put {K : PySem.W.Frag} {H H3 : Hp} {h c d : Addr} {es : List (Int × PyData)} {kvs : List (Key × V)} {i : Nat} {v : V} {t : PyData} (kh : Kh h H H3) (hh : Hand H3 h c) (x : ThAt K H3 d es kvs) (hd : H d = Option.none)
    (hk : es.map (·.1) = births i) (hi : i < 1000) (hv : Dp K H3 v t) (ht : Th t) :
    ∃ H4 es' kvs', DPut H3 d (.int (1 + (i : Nat))) v H4 ∧ Kh h H H4 ∧ Hand H4 h c ∧ ThAt K H4 d es' kvs' ∧ es'.map (·.1) = births (i + 1) := by
  have hb : (1 : Int) + i ∉ es.map (·.1) := by
    rw [hk, births_mem]
    omega
  have hl : kvs.length < sizeLine := by
    have e := congrArg List.length x.ks
    rw [List.length_map, List.length_map] at e
    have e2 := congrArg List.length hk
    rw [List.length_map] at e2
    have e3 : (births i).length = i := by unfold births; rw [List.length_map, List.length_range]
    rw [e, e2, e3]
    exact Nat.lt_trans hi (by decide)
  refine ⟨_, _, _, DPut.k (k := Sum.inl (1 + (i : Int))) x.at_ hl, kh.mut hd, hh.put (fun xs e => by rw [x.at_] at e; cases e), x.snoc hb hv ht, ?_⟩
  rw [List.map_append, hk, births_succ]
  show births i ++ [1 + (i : Int)] = _
  rw [show (1 : Int) + i = i + 1 by omega]
theorem births_len (n : Nat) : (births n).length = n := by
  unfold births
  rw [List.length_map, List.length_range]
end Cm

/-! comprehensions over data -/
namespace Cm
open PySem L2
theorem sqt_put {K : PySem.W.Frag} {H : Hp} {D a : Addr} {xs ys zs : List V} (h : H D = some (.lst ys)) (q : SqT K H a xs) : SqT K (upd H D (.lst zs)) a xs := by
  rcases q with (q | ⟨o, q⟩) | q
  · exact .inl (.inl (by rw [upd_ne (ne_of q h (by intro z; cases z))]; exact q))
  · exact .inl (.inr ⟨o, by rw [upd_ne (ne_of q h (by intro z; cases z))]; exact q⟩)
  · exact .inr q
theorem same_put {H H' : Hp} {D : Addr} {o : HO} (s : Same H H') (h : H D = Option.none) : Same H (upd H' D o) := fun b u e => by
  rw [upd_ne (ne_of_none e h)]
  exact s b u e
theorem sqt_same {K : PySem.W.Frag} {H H' : Hp} {a : Addr} {xs : List V} (s : Same H H') (h : SqT K H a xs) : SqT K H' a xs := by
  rcases h with (h | ⟨o, h⟩) | h
  · exact .inl (.inl (s _ _ h))
  · exact .inl (.inr ⟨o, s _ _ h⟩)
  · exact .inr h
theorem flatDs_all {ds : List PyData} (h : flatDs ds = true) : ∀ d ∈ ds, flatD d = true := by
  induction ds with
  | nil => intro d hd; cases hd
  | cons a r ih =>
    have h' : flatD a = true ∧ flatDs r = true := by simpa [flatDs] using h
    intro d hd
    rcases List.mem_cons.mp hd with rfl | hd
    · exact h'.1
    · exact ih h'.2 d hd
theorem flatDs_app {ds es : List PyData} (h1 : flatDs ds = true) (h2 : flatDs es = true) : flatDs (ds ++ es) = true :=
  flatDs_of _ fun d hd => by
    rcases List.mem_append.mp hd with q | q
    · exact flatDs_all h1 d q
    · exact flatDs_all h2 d q
theorem walk_upto {n : Nat} : Walk (Itr 0 n) n (fun _ => True) (YFn fun i => .int ((i : Nat) : Int)) :=
  ⟨fun _ _ hi _ => hi, fun _ _ => Nat.le_refl _, fun i H x H' _ _ y => ⟨y.1, by
    have := y.2
    rw [Int.zero_add] at this
    exact this⟩⟩
/-! ### the same rules where the context is a comprehension's block: K is said -/
section
variable {X : Cx} {K : PySem.W.Frag}
theorem kx_tup (h : X.K = K := by rfl) : IxR X (rIxT K) := by subst h; exact ix_tup
theorem kx_list (h : X.K = K := by rfl) : IxR X (rIxL K) := by subst h; exact ix_list
theorem kx_seq (h : X.K = K := by rfl) : IxR X (rIx K) := by subst h; exact ix_seq
theorem ko_eqD (hu : X.A.units + 64 < cLine) (h : X.K = K := by rfl) : OpR X (compareOp .Eq) (rEqD K) := by subst h; exact op_eqD hu
theorem ko_neD (hu : X.A.units + 64 < cLine) (h : X.K = K := by rfl) : OpR X (compareOp .NotEq) (rNeD K) := by subst h; exact op_neD hu
theorem ko_in (h : X.K = K := by rfl) : OpR X (compareOp .In) (rIn K false) := by subst h; exact op_in_seq
theorem ko_notIn (h : X.K = K := by rfl) : OpR X (compareOp .NotIn) (rIn K true) := by subst h; exact op_notIn_seq
theorem ko_catA (h : X.K = K := by rfl) : OpR X (binaryOp .Add) (rCatA K) := by subst h; exact op_catA
def rLen (K : PySem.W.Frag) : List V → Hp → VK → Prop := fun xs H Q => ∃ p ys, xs = [.ref p] ∧ (SqL K H p ys ∨ SqT K H p ys) ∧ Q (.int ys.length) H
theorem kc_len (h : X.K = K := by rfl) : CallR X (.builtin "len") (rLen K) := by subst h; exact call_len_seq
end
/-- a comprehension whose items are data without lists: R i is the i-th turn's, none if it is left out -/
theorem lc_data {K : PySem.W.Frag} {J : It} {n : Nat} {G : Hp → Prop} {Y : Nat → Hp → V → Hp → Prop} (wk : Walk J n G Y) {g : TG} {tt : TT} {te : TE} {vs : List Nat} {σ : L2.St} {H1 : Hp} {D : Addr} {Qd : Hp → Prop} (R : Nat → Option PyData)
    (hD : H1 D = Option.none) (hn : n ≤ 100000) (hG : ∀ H, Same H1 H → G H) (hfl : ∀ i < n, ∀ d, R i = some d → flatD d = true)
    (hs : ∀ i x H H', i < n → Same H1 H → Y i H x H' → ∀ (Q1 : VK) (Q0 : Hp → Prop), (∀ v H4 d, R i = some d → Same H H4 → Dp K H4 v d → Q1 v H4) → (∀ H3, R i = none → Same H H3 → Q0 H3) →
      g x (wipe σ vs) H' fun σ2 H2 => wipe σ2 vs = wipe σ vs ∧ tt σ2 H2 fun b H3 => if b = true then te σ2 H3 Q1 else Q0 H3)
    (hd : ∀ H acc, Same H1 H → H D = some (.lst acc) → DpAll K H acc ((List.range n).filterMap R) → Qd H) :
    ∃ W : Nat → Nat → Hp → Prop, (∃ m, W 0 m (upd H1 D (.lst []))) ∧ ∀ i m H, W i m H →
      (J.stop i H ∧ Qd H) ∨ (J.go i H ∧ ∃ Nx : Hp → Prop, (∀ H', Nx H' → ∃ m', m' < m ∧ W (i + 1) m' H') ∧ ∀ x H', J.yld i H x H' → g x (wipe σ vs) H' fun σ2 H2 => wipe σ2 vs = wipe σ vs ∧ tt σ2 H2 fun b H3 =>
        if b = true then te σ2 H3 fun y H4 => ∃ acc, H4 D = some (.lst acc) ∧ acc.length < sizeLine ∧ Nx (upd H4 D (.lst (acc ++ [y]))) else Nx H3) := by
  have fl : ∀ i ≤ n, flatDs ((List.range i).filterMap R) = true := fun i hi => flatDs_of _ fun d hd => by
    obtain ⟨j, hj, e⟩ := List.mem_filterMap.mp hd
    exact hfl j (by have := List.mem_range.mp hj; omega) d e
  refine lc_it wk (fun i H => ∃ acc, Same H1 H ∧ H D = some (.lst acc) ∧ DpAll K H acc ((List.range i).filterMap R) ∧ acc.length ≤ i) ⟨[], same_new hD, upd_same, .nil, Nat.le_refl _⟩ (fun i H _ z => ?_) ?_ ?_
  · obtain ⟨acc, s, _⟩ := z
    exact hG H s
  · rintro i x H H' hi ⟨acc, s, hacc, ha, hl⟩ y
    refine hs i x H H' hi s y _ _ (fun v H4 d e s4 hv => ?_) (fun H3 e s3 => ?_)
    · have hD4 := s4 _ _ hacc
      refine ⟨acc, hD4, Nat.lt_of_le_of_lt hl (Nat.lt_of_lt_of_le (show i < 100000 by omega) (by decide)), acc ++ [v], same_put (s.trans s4) hD, upd_same, ?_, by rw [List.length_append]; exact Nat.succ_le_succ hl⟩
      rw [List.range_succ, List.filterMap_append]
      have e1 : ([i].filterMap R) = [d] := by simp [e]
      rw [e1]
      exact DpAll.snoc (dp_keep (fun _ _ q => sqt_put hD4 q) _ _ (hfl i hi d e) hv) (dps_keep (fun _ _ q => sqt_put hD4 q) _ _ (fl i (by omega)) (dps_same s4 _ _ ha))
    · refine ⟨acc, s.trans s3, s3 _ _ hacc, ?_, by omega⟩
      rw [List.range_succ, List.filterMap_append]
      have e1 : ([i].filterMap R) = [] := by simp [e]
      rw [e1, List.append_nil]
      exact dps_same s3 _ _ ha
  · rintro H ⟨acc, s, hacc, ha, _⟩
    exact hd H acc s hacc ha
/-- a comprehension that draws: each item is data that is good -/
theorem lc_draw {K : PySem.W.Frag} {M : Addr → Prop} {J : It} {n : Nat} {G : Hp → Prop} {Y : Nat → Hp → V → Hp → Prop} (wk : Walk J n G Y) {g : TG} {tt : TT} {te : TE} {vs : List Nat} {σ : L2.St} {H1 : Hp} {D : Addr} {Qd : Hp → Prop}
    (I : Hp → Prop) (Gd : PyData → Prop) (hM : ∀ a, M a → ∃ xs, H1 a = some (.lst xs)) (h0 : I (upd H1 D (.lst []))) (hI : ∀ H ys, Kp M H1 H → I H → I (upd H D (.lst ys)))
    (hD : H1 D = Option.none) (hn : n ≤ 100000) (hG : ∀ H, Kp M H1 H → I H → G H) (hfl : ∀ d, Gd d → flatD d = true)
    (hs : ∀ i x H H', i < n → Kp M H1 H → I H → Y i H x H' → ∀ (Q1 : VK) (Q0 : Hp → Prop), (∀ v H4 d, Gd d → Kp M H H4 → I H4 → Dp K H4 v d → Q1 v H4) → (∀ H3, Kp M H H3 → I H3 → Q0 H3) →
      g x (wipe σ vs) H' fun σ2 H2 => wipe σ2 vs = wipe σ vs ∧ tt σ2 H2 fun b H3 => if b = true then te σ2 H3 Q1 else Q0 H3)
    (hd : ∀ H acc ds, Kp M H1 H → I H → H D = some (.lst acc) → DpAll K H acc ds → (∀ d ∈ ds, Gd d) → ds.length ≤ n → Qd H) :
    ∃ W : Nat → Nat → Hp → Prop, (∃ m, W 0 m (upd H1 D (.lst []))) ∧ ∀ i m H, W i m H →
      (J.stop i H ∧ Qd H) ∨ (J.go i H ∧ ∃ Nx : Hp → Prop, (∀ H', Nx H' → ∃ m', m' < m ∧ W (i + 1) m' H') ∧ ∀ x H', J.yld i H x H' → g x (wipe σ vs) H' fun σ2 H2 => wipe σ2 vs = wipe σ vs ∧ tt σ2 H2 fun b H3 =>
        if b = true then te σ2 H3 fun y H4 => ∃ acc, H4 D = some (.lst acc) ∧ acc.length < sizeLine ∧ Nx (upd H4 D (.lst (acc ++ [y]))) else Nx H3) := by
  have nM : ¬ M D := fun m => by
    obtain ⟨xs, e⟩ := hM D m
    rw [hD] at e
    cases e
  refine lc_it wk (fun i H => ∃ acc ds, Kp M H1 H ∧ I H ∧ H D = some (.lst acc) ∧ DpAll K H acc ds ∧ (∀ d ∈ ds, Gd d) ∧ ds.length ≤ i) ⟨[], [], Kp.new hM hD, h0, upd_same, .nil, (by intro d hd; cases hd), Nat.le_refl _⟩ (fun i H _ z => ?_) ?_ ?_
  · obtain ⟨acc, ds, s, iH, _⟩ := z
    exact hG H s iH
  · rintro i x H H' hi ⟨acc, ds, s, iH, hacc, ha, hg, hl⟩ y
    have fl : flatDs ds = true := flatDs_of _ fun d hd => hfl d (hg d hd)
    refine hs i x H H' hi s iH y _ _ (fun v H4 d e s4 i4 hv => ?_) (fun H3 s3 i3 => ?_)
    · have hD4 := s4.st _ _ nM hacc
      refine ⟨acc, hD4, ?_, acc ++ [v], ds ++ [d], (s.trans s4).mut hD, hI _ _ (s.trans s4) i4, upd_same, ?_, ?_, by rw [List.length_append]; exact Nat.succ_le_succ hl⟩
      · rw [DpAll.len ha]
        exact Nat.lt_of_le_of_lt hl (Nat.lt_of_lt_of_le (show i < 100000 by omega) (by decide))
      · exact DpAll.snoc (dp_keep (fun _ _ q => sqt_put hD4 q) _ _ (hfl d e) hv) (dps_keep (fun _ _ q => sqt_put hD4 q) _ _ fl (dps_keep (fun _ _ q => s4.tup q) _ _ fl ha))
      · intro d' hd'
        rcases List.mem_append.mp hd' with q | q
        · exact hg d' q
        · cases List.mem_singleton.mp q
          exact e
    · exact ⟨acc, ds, s.trans s3, i3, s3.st _ _ nM hacc, dps_keep (fun _ _ q => s3.tup q) _ _ fl ha, hg, by omega⟩
  · rintro H ⟨acc, ds, s, iH, hacc, ha, hg, hl⟩
    exact hd H acc ds s iH hacc ha hg hl
/-! ### data that repr takes -/
structure Sm (D W : Nat) (d : PyData) : Prop where
  ok : okD d = true
  dp : d.depth ≤ D
  wt : d.weight ≤ W
theorem Sm.mono {D W D' W' : Nat} {d : PyData} (x : Sm D W d) (h1 : D ≤ D') (h2 : W ≤ W') : Sm D' W' d := ⟨x.ok, Nat.le_trans x.dp h1, Nat.le_trans x.wt h2⟩
theorem sm_int {i : Int} (h : i.natAbs < 10 ^ 12) : Sm 0 64 (.int i) := ⟨by simp only [okD]; exact decide_eq_true h, by simp [PyData.depth], wt_int h⟩
theorem sm_all {D W : Nat} : ∀ {ds : List PyData}, (∀ d ∈ ds, Sm D W d) → okDs ds = true ∧ PyData.depthAll ds ≤ D ∧ PyData.weightAll ds ≤ ds.length * (W + 2)
  | [], _ => ⟨rfl, by simp [PyData.depthAll], by simp [PyData.weightAll]⟩
  | d :: ds, h => by
    have a := h d List.mem_cons_self
    obtain ⟨b1, b2, b3⟩ := sm_all (ds := ds) fun x hx => h x (List.mem_cons_of_mem _ hx)
    refine ⟨by simp [okDs, a.ok, b1], ?_, ?_⟩
    · have := a.dp
      simp only [PyData.depthAll]
      omega
    · have := a.wt
      simp only [PyData.weightAll, List.length_cons, Nat.add_mul]
      omega
theorem Sm.tuple {D W m : Nat} {ds : List PyData} (h : ∀ d ∈ ds, Sm D W d) (hm : ds.length ≤ m) : Sm (D + 1) (m * (W + 2)) (.tuple ds) := by
  obtain ⟨a, b, c⟩ := sm_all h
  refine ⟨by simpa [okD] using a, ?_, ?_⟩
  · simp only [PyData.depth]
    omega
  · simp only [PyData.weight]
    exact Nat.le_trans c (Nat.mul_le_mul_right _ hm)
theorem Sm.rep {K : PySem.W.Frag} {H : Hp} {x : V} {D W : Nat} {d : PyData} {Q : VK} (s : Sm D W d) (h1 : D ≤ 60) (h2 : W ≤ 2 ^ 20) (hd : Rp K H x d) (q : Q (.str d.shown) H) : rRepr K [x] H Q :=
  ⟨x, d, rfl, hd, s.ok, Nat.le_trans s.dp h1, Nat.le_trans s.wt h2, q⟩
theorem sm_kv {D W : Nat} : ∀ {es : List (Int × PyData)}, (∀ e ∈ es, e.1.natAbs < 10 ^ 12 ∧ Sm D W e.2) → okDk (es.map fun e => (PyData.int e.1, e.2)) = true ∧ PyData.depthKv (es.map fun e => (PyData.int e.1, e.2)) ≤ D ∧ PyData.weightKv (es.map fun e => (PyData.int e.1, e.2)) ≤ es.length * (W + 70)
  | [], _ => ⟨rfl, by simp [PyData.depthKv], by simp [PyData.weightKv]⟩
  | e :: es, h => by
    obtain ⟨a1, a⟩ := h e List.mem_cons_self
    obtain ⟨b1, b2, b3⟩ := sm_kv (es := es) fun x hx => h x (List.mem_cons_of_mem _ hx)
    have i := sm_int a1
    refine ⟨by simp [okDk, a.ok, b1, i.ok], ?_, ?_⟩
    · have := a.dp
      have := i.dp
      simp only [List.map_cons, PyData.depthKv]
      omega
    · have := a.wt
      have := i.wt
      simp only [List.map_cons, PyData.weightKv, List.length_cons, Nat.add_mul] at this ⊢
      omega
/-- what repr is asked of -/
def Rok (K : PySem.W.Frag) (H : Hp) (x : V) (d : PyData) : Prop := Rp K H x d ∧ okD d = true ∧ d.depth ≤ 60 ∧ d.weight ≤ 2 ^ 20
theorem Sm.rok {K : PySem.W.Frag} {H : Hp} {x : V} {D W : Nat} {d : PyData} (s : Sm D W d) (h1 : D ≤ 60) (h2 : W ≤ 2 ^ 20) (hd : Rp K H x d) : Rok K H x d :=
  ⟨hd, s.ok, Nat.le_trans s.dp h1, Nat.le_trans s.wt h2⟩
/-- the whole dict of things -/
theorem ThAt.rok {K : PySem.W.Frag} {H : Hp} {d : Addr} {es : List (Int × PyData)} {kvs : List (Key × V)} (x : ThAt K H d es kvs) {n : Nat} (hk : es.map (·.1) = births n) (hn : n ≤ 100) : Rok K H (.ref d) (PyData.dict (es.map fun e => (PyData.int e.1, e.2))) := by
  obtain ⟨a, b, c⟩ := sm_kv (D := 8) (W := 4000) (es := es) fun e he => by
    have m : e.1 ∈ births n := by rw [← hk]; exact List.mem_map.mpr ⟨e, he, rfl⟩
    have := births_mem.mp m
    exact ⟨by omega, ⟨(x.th e he).ok, (x.th e he).dp, (x.th e he).wt⟩⟩
  have hl : es.length = n := by
    have e := congrArg List.length hk
    rw [List.length_map, births_len] at e
    exact e
  refine ⟨.inr ⟨d, kvs, es, rfl, x.at_, x.ks, x.vs, x.fl, rfl⟩, by simpa [okD] using a, ?_, ?_⟩
  · simp only [PyData.depth]
    omega
  · simp only [PyData.weight]
    refine Nat.le_trans c ?_
    rw [hl]
    exact Nat.le_trans (Nat.mul_le_mul_right _ hn) (by decide)
end Cm

namespace K09
open PySem L2 Cm
def top (i : Nat) : Stmt := PySem.Challenge.pw_goonagain_k09_deeds_for_all_rows_of_fram.main.body.getD i (.Pass ⟨0, 0, 0, 0⟩)
structure Txt (mg : Str → Option Value) : Prop where
  abs : mg "abs" = none
  enumerate : mg "enumerate" = none
  int : mg "int" = none
  len : mg "len" = none
  max : mg "max" = none
  min : mg "min" = none
  range : mg "range" = none
  repr : mg "repr" = none
  sorted : mg "sorted" = none
  tuple : mg "tuple" = none
  zip : mg "zip" = none
section
variable {P : Program} {w : World} {K : PySem.W.Frag} {mg : Str → Option Value} {base : Heap}
-- mix
abbrev s_l_mix : Stmt := top 7
abbrev N_l_mix : List Str := ["_law_number", "_law_turn", "_law_once", "_law_twice"]
theorem sc_l_mix : FnScope N_l_mix ["_law_number", "_law_turn"] (defScope s_l_mix) := ⟨rfl, rfl, rfl, by decide +kernel, rfl, by decide +kernel, by decide +kernel⟩
theorem ok_mix (T : Txt mg) (D : At K mg "_law_mix" s_l_mix ["_law_number", "_law_turn"]) : Cl P w K mg base 1 "_law_mix" spMix := by
  refine cl_of D sc_l_mix (fun vs H Q E h => ?_) fun f cdv A outer s H vs Q E hr h => ?_
  · obtain ⟨a, b, rfl, _⟩ := h
    rfl
  · obtain ⟨a, b, rfl, k⟩ := h
    refine ⟨_, (pss_cons (ps_set (i := 2) sc_l_mix.nd rfl (Or.inl rfl) (pe_op op_mod (pe_callTy call_int1 (by rfl) T.int (by decide +kernel) (pa_cons (pe_op op_add (pe_op op_add (pe_op op_mul (pv 0) pe_int) (pe_op op_mul (pv 1) pe_int)) pe_int) pa_nil)) pe_int))
      (pss_cons (ps_set (i := 3) sc_l_mix.nd rfl (Or.inl rfl) (pe_op op_mod (pe_callTy call_int1 (by rfl) T.int (by decide +kernel) (pa_cons (pe_op op_add (pe_op op_add (pe_op op_mul (pv 2) (pv 2)) (pe_op op_mul (pe_op op_fdiv (pv 2) pe_int) pe_int)) (pe_op op_mul (pv 1) pe_int)) pa_nil)) pe_int))
      (pss_one (ps_ret (pe_op op_fdiv (pe_op op_mod (pe_callTy call_int1 (by rfl) T.int (by decide +kernel) (pa_cons (pe_op op_add (pe_op op_fdiv (pe_op op_mul (pv 3) (pv 3)) pe_int) (pv 2)) pa_nil)) pe_int) pe_int))))), ?_⟩
    refine ⟨_, rfl, _, _, rfl, rfl, .inr (by decide), ?_⟩
    refine ⟨_, rfl, _, _, rfl, rfl, .inr (by decide), ?_⟩
    refine ⟨_, _, rfl, rfl, _, _, rfl, rfl, .inl ⟨_, rfl, _, _, rfl, rfl, (by show (0 : Int) < _; decide), ?_⟩⟩
    generalize hx : (a * 48271 + b * 16807 + 11) % 2147483647 = x
    have x0 : 0 ≤ x := by omega
    have x1 : x < 2147483647 := by omega
    clear hx
    refine ⟨_, rfl, _, rfl, _, _, rfl, rfl, .inl ⟨by omega, by omega⟩, ?_⟩
    refine ⟨_, rfl, _, _, rfl, rfl, ⟨by decide, by decide⟩, _, _, rfl, rfl, .inr (by decide), ?_⟩
    refine ⟨_, _, rfl, rfl, _, rfl, _, _, rfl, rfl, .inr (by decide), _, _, rfl, rfl, .inl ⟨_, rfl, _, _, rfl, rfl, (by show (0 : Int) < _; decide), ?_⟩⟩
    generalize hy : (x * x + x / 127 * 40692 + b * 69621) % 2147483399 = y
    have y0 : 0 ≤ y := by omega
    have y1 : y < 2147483399 := by omega
    clear hy
    refine ⟨_, rfl, _, rfl, _, _, rfl, rfl, .inl ⟨by omega, by omega⟩, _, _, rfl, rfl, ⟨by decide, by decide⟩, ?_⟩
    refine ⟨_, rfl, _, _, rfl, rfl, .inl ⟨_, rfl, _, _, rfl, rfl, (by show (0 : Int) < _; decide), _, _, rfl, rfl, ⟨by decide, by decide⟩, ?_⟩⟩
    exact k _
-- hand
abbrev s_l_hand : Stmt := top 8
abbrev N_l_hand : List Str := ["_law_script", "_law_total", "_law_k", "_law_cell"]
theorem sc_l_hand : FnScope N_l_hand ["_law_script"] (defScope s_l_hand) := ⟨rfl, rfl, rfl, by decide +kernel, rfl, by decide +kernel, by decide +kernel⟩
theorem ok_hand (T : Txt mg) (D : At K mg "_law_hand" s_l_hand ["_law_script"]) : Cl P w K mg base 1 "_law_hand" (spHand K) := by
  refine cl_of D sc_l_hand (fun vs H Q E h => ?_) fun f cdv A outer s H vs Q E hr h => ?_
  · obtain ⟨a, ns, rfl, _⟩ := h
    rfl
  · obtain ⟨a, ns, rfl, hS, hlen, k⟩ := h
    refine ⟨_, (pss_cons (ps_set (i := 1) sc_l_hand.nd rfl (Or.inl rfl) pe_int)
      (pss_cons (ps_for PassesOwn.never rfl (pi_enum (by rfl) T.enumerate (pa_cons (pv 0) pa_nil)) (pg_tup (by rfl) (pgs_cons (pg_name (i := 2) sc_l_hand.nd rfl (Or.inl rfl)) (pgs_cons (pg_name (i := 3) sc_l_hand.nd rfl (Or.inl rfl)) pgs_nil)))
        (pss_one (ps_set (i := 1) sc_l_hand.nd rfl (Or.inl rfl) (pe_op op_mod (pe_callTy call_int1 (by rfl) T.int (by decide +kernel) (pa_cons (pe_op op_add (pe_op op_mul (pv 1) pe_int) (pe_op op_mul (pe_callTy call_int1 (by rfl) T.int (by decide +kernel) (pa_cons (pv 3) pa_nil)) (pe_op op_add (pv 2) pe_int))) pa_nil)) pe_int))))
      (pss_one (ps_ret (pe_lst (pa_cons (pe_lc (own := [("_law_cell", 3)]) rfl sc_l_hand.nd (pi_list (pv 0)) (blkOk_by (N := N_l_hand) (sc := defScope s_l_hand) (by decide +kernel))
      (fun _ _ _ _ _ => (pg_name (i := 3) sc_l_hand.nd rfl (Or.inl rfl)))
      (fun _ _ _ _ _ => pts_nil)
      (fun _ _ _ _ _ => (pe_callB call_abs (by rfl) T.abs (by decide +kernel) (pa_cons (pe_callTy call_int1 (by rfl) T.int (by decide +kernel) (pa_cons (pv 3) pa_nil)) pa_nil)))) (pa_cons pe_int (pa_cons pe_int (pa_cons (pv 1) pa_nil))))))))), ?_⟩
    refine ⟨_, rfl, a, _, rfl, hS, ?_⟩
    refine for_it (walk_enum (xs := ns.map V.int)) (fun i σ H' => ∃ (t : Int) (v2 v3 : Option V), σ = [some (.ref a), some (.int t), v2, v3] ∧ Same H H') ⟨0, none, none, rfl, Same.refl H⟩ (fun i σ H' _ z => ?_) ?_ ?_
    · obtain ⟨t, v2, v3, rfl, s1⟩ := z
      exact s1.seq hS
    · rintro i x σ H1 H2 hi ⟨t, v2, v3, rfl, s1⟩ ⟨T1, x1, x2, rfl, hT, rfl, e1, e2⟩
      cases e1
      obtain ⟨n, en, rfl⟩ := map_at e2
      refine ⟨T1, _, rfl, .inl (.inl upd_same), rfl, _, _, rfl, _, _, rfl, rfl, ?_⟩
      refine ⟨_, rfl, _, _, rfl, rfl, .inr (by decide), _, rfl, .inl ⟨_, rfl, ?_⟩⟩
      refine ⟨_, rfl, _, _, rfl, rfl, _, _, rfl, rfl, .inr ⟨?_, ?_⟩, ?_⟩
      · rw [List.length_map] at hi
        omega
      · rw [List.length_map] at hi
        omega
      refine ⟨_, _, rfl, rfl, .inl ⟨_, rfl, _, _, rfl, rfl, (by show (0 : Int) < _; decide), ?_⟩⟩
      exact ⟨_, _, _, rfl, s1.trans (same_new hT)⟩
    · rintro σ H1 ⟨t, v2, v3, rfl, s1⟩
      refine ⟨_, rfl, a, rfl, ⟨_, s1.seq hS⟩, fun D hD => ?_⟩
      refine lc_it (walk_list (xs := ns.map V.int)) (fun i H' => ∃ acc : List Int, Same H1 H' ∧ H' D = some (.lst (acc.map V.int)) ∧ acc.length = i) ⟨[], same_new hD, upd_same, rfl⟩ (fun i H' _ z => ?_) ?_ ?_
      · obtain ⟨acc, s2, _⟩ := z
        exact (s1.trans s2).seq hS
      · rintro i x H2 H3 hi ⟨acc, s2, hacc, hl⟩ ⟨rfl, e2⟩
        obtain ⟨n, en, rfl⟩ := map_at e2
        rw [List.length_map] at hi
        refine ⟨rfl, ?_⟩
        refine ⟨_, rfl, .inl ⟨_, rfl, _, rfl, _, hacc, ?_, ?_⟩⟩
        · rw [List.length_map]
          exact Nat.lt_of_lt_of_le (show acc.length < 63 by omega) (by decide)
        · refine ⟨acc ++ [if n < 0 then -n else n], fun b o e => ?_, ?_, ?_⟩
          · have hb : b ≠ D := ne_of_none e hD
            rw [upd_ne hb]
            exact s2 b o e
          · rw [upd_same, List.map_append]
            rfl
          · rw [List.length_append, hl]
            rfl
      · rintro H2 ⟨acc, s2, hacc, hl⟩
        refine ⟨_, rfl, by show 4 ≤ sizeLine; decide, fun p hp => ?_⟩
        rw [List.length_map] at hl
        have npD : D ≠ p := ne_of_none hacc hp
        refine k p D _ ((s1.trans s2).trans (same_new hp)) ((s1.trans s2).free hp) (s1.free hD) ⟨acc, _, _, _, upd_same, ?_, npD, Int.le_refl 0, by omega⟩
        rw [upd_ne npD]
        exact hacc
end
end K09

namespace K09
open PySem L2 Cm
section
variable {P : Program} {w : World} {K : PySem.W.Frag} {mg : Str → Option Value} {base : Heap}
abbrev s_l_draw : Stmt := top 9
abbrev N_l_draw : List Str := ["_law_hand_here", "_law_many", "_law_cell", "_law_rest"]
theorem sc_l_draw : FnScope N_l_draw ["_law_hand_here", "_law_many"] (defScope s_l_draw) := ⟨rfl, rfl, rfl, by decide +kernel, rfl, by decide +kernel, by decide +kernel⟩
theorem ok_draw (T : Txt mg) (c_l_mix : Cl P w K mg base 1 "_law_mix" spMix) (D : At K mg "_law_draw" s_l_draw ["_law_hand_here", "_law_many"]) : Cl P w K mg base 2 "_law_draw" spDraw := by
  refine cl_of D sc_l_draw (fun vs H Q E h => ?_) fun f cdv A outer s H vs Q E hr h => ?_
  · obtain ⟨h, c, m, rfl, _⟩ := h
    rfl
  · obtain ⟨h, c, m, rfl, ⟨cells, i, b, t, e1, e2, nch, hi, hlen⟩, hm0, hm1, k⟩ := h
    refine ⟨_, (pss_mid (ps_if (PW.pt (pw_and (pt_cmpR op_eq (pe_ix ix_list (pv 0) pe_int (fun _ _ => rfl)) pe_int (nomark _)) (pw_and1 (pt_cmpR op_lt (pe_ix ix_list (pv 0) pe_int (fun _ _ => rfl)) (pe_callB call_len_seq (by rfl) T.len (by decide +kernel) (pa_cons (pe_ix ix_list (pv 0) pe_int (fun _ _ => rfl)) pa_nil)) (nomark _)))))
        (pss_cons (ps_set (i := 2) sc_l_draw.nd rfl (Or.inl rfl) (pe_ix ix_list (pe_ix ix_list (pv 0) pe_int (fun _ _ => rfl)) (pe_ix ix_list (pv 0) pe_int (fun _ _ => rfl)) (fun _ _ => rfl)))
        (pss_cons (ps_asg (pe_op op_add (pe_ix ix_list (pv 0) pe_int (fun _ _ => rfl)) pe_int) (pg_sub (pv 0) pe_int set_list))
        (pss_cons (ps_if (pt_cmpR op_lt (pv 2) (pe_op op_pow pe_int pe_int) (nomark _))
          (pss_one (ps_ret (pe_op op_mod (pe_callTy call_int1 (by rfl) T.int (by decide +kernel) (pa_cons (pe_c c_l_mix hr (by decide) (by rfl) (pa_cons (pe_op op_mod (pe_callTy call_int1 (by rfl) T.int (by decide +kernel) (pa_cons (pv 2) pa_nil)) pe_int) (pa_cons (pe_ix ix_list (pv 0) pe_int (fun _ _ => rfl)) pa_nil))) pa_nil)) (pv 1))))
          pss_nil)
        (pss_one (ps_asg (pv 2) (pg_sub (pv 0) pe_int set_list))))))
        pss_nil)
      (pss_cons (ps_if (pt_cmpR op_gt (pe_ix ix_list (pv 0) pe_int (fun _ _ => rfl)) pe_int (nomark _))
        (pss_cons (ps_set (i := 3) sc_l_draw.nd rfl (Or.inl rfl) (pe_ix ix_list (pv 0) pe_int (fun _ _ => rfl)))
        (pss_cons (ps_asg (pe_op op_fdivW (pv 3) (pv 1)) (pg_sub (pv 0) pe_int set_list))
        (pss_one (ps_ret (pe_op op_mod (pe_callTy call_int1 (by rfl) T.int (by decide +kernel) (pa_cons (pv 3) pa_nil)) (pv 1))))))
        pss_nil)
      (pss_cons (ps_asg (pe_op op_mod (pe_callTy call_int1 (by rfl) T.int (by decide +kernel) (pa_cons (pe_op op_add (pe_ix ix_list (pv 0) pe_int (fun _ _ => rfl)) pe_int) pa_nil)) pe_int) (pg_sub (pv 0) pe_int set_list))
      (pss_one (ps_ret (pe_op op_mod (pe_callTy call_int1 (by rfl) T.int (by decide +kernel) (pa_cons (pe_c c_l_mix hr (by decide) (by rfl) (pa_cons (pe_ix ix_list (pv 0) pe_int (fun _ _ => rfl)) (pa_cons (pe_ix ix_list (pv 0) pe_int (fun _ _ => rfl)) pa_nil))) pa_nil)) (pv 1))))))), ?_⟩
    have big : CDivW b m := wide_div (b := 100) hm0 (by omega) (by decide) (by decide)
    have kh0 : ∀ {ys : List V}, Kh h H (upd H h (.lst ys)) := Kp.put (fun a ha => by rw [ha]; exact ⟨_, e1⟩) rfl
    refine ⟨fun σ' H' => ∃ (i b t : Int) (v2 v3 : Option V), σ' = [some (.ref h), some (.int m), v2, v3] ∧ Kh h H H' ∧ H' h = some (.lst [.ref c, .int i, .int b, .int t]) ∧ H' c = some (.lst (cells.map V.int)) ∧ 0 ≤ i, ?_, ?_⟩
    · refine ⟨_, rfl, _, _, _, _, rfl, rfl, .inl (.inl e1), rfl, rfl, _, rfl, ?_⟩
      refine ite2 (fun _ => ?_) (fun _ => ?_)
      · refine ⟨_, rfl, _, _, _, _, rfl, rfl, .inl (.inl e1), rfl, _, rfl, _, _, _, _, rfl, rfl, .inl (.inl e1), rfl, c, _, rfl, .inl (.inl (.inl e2)), _, _, rfl, rfl, _, rfl, ?_⟩
        refine ite2 (fun hlt => ?_) (fun _ => ?_)
        · have hlt' : i < (cells.length : Int) := by
            have := of_decide_eq_true hlt
            rw [List.length_map] at this
            exact this
          obtain ⟨j, rfl⟩ : ∃ j : Nat, i = (j : Int) := ⟨i.toNat, by omega⟩
          have hj : j < cells.length := by omega
          have hat : atI (cells.map V.int) (j : Int) = some (.int cells[j]) := atI_nat (by rw [List.getElem?_map, List.getElem?_eq_getElem hj]; rfl)
          refine ⟨_, rfl, _, _, _, _, rfl, rfl, .inl (.inl e1), rfl, _, rfl, _, _, _, _, rfl, rfl, .inl (.inl e1), rfl, c, _, _, _, rfl, rfl, .inl (.inl e2), hat, ?_⟩
          refine ⟨_, rfl, _, _, _, _, rfl, rfl, .inl (.inl e1), rfl, _, _, rfl, rfl, _, rfl, h, _, _, 1, rfl, rfl, e1, rfl, ?_⟩
          have e2' : upd H h (.lst [.ref c, .int ((j : Int) + 1), .int b, .int t]) c = some (.lst (cells.map V.int)) := by rw [upd_ne nch]; exact e2
          refine ⟨_, rfl, _, _, rfl, rfl, ⟨by decide, by decide, by decide⟩, _, _, rfl, rfl, _, rfl, ?_⟩
          refine ite2 (fun _ => ?_) (fun _ => ?_)
          · refine ⟨_, rfl, .inl ⟨_, rfl, _, _, rfl, rfl, (by show (0 : Int) < _; decide), _, rfl, _, _, _, _, rfl, rfl, .inl (.inl upd_same), rfl, ?_⟩⟩
            refine ⟨_, _, rfl, fun n => .inl ⟨_, rfl, _, rfl, _, _, rfl, rfl, hm0, ?_⟩⟩
            exact k _ _ (Int.emod_nonneg _ (by omega)) (Int.emod_lt_of_pos _ hm0) kh0 ⟨cells, _, _, _, upd_same, e2', nch, by omega, hlen⟩
          · refine ⟨_, rfl, _, rfl, h, _, _, 2, rfl, rfl, upd_same, rfl, ?_⟩
            rw [upd_upd]
            exact ⟨_, _, _, _, _, rfl, kh0, upd_same, by rw [upd_ne nch]; exact e2, by omega⟩
        · exact ⟨i, b, t, _, _, rfl, Kp.refl (fun a ha => by rw [ha]; exact ⟨_, e1⟩), e1, e2, hi⟩
      · exact ⟨i, b, t, _, _, rfl, Kp.refl (fun a ha => by rw [ha]; exact ⟨_, e1⟩), e1, e2, hi⟩
    · rintro σ' H' ⟨i, b, t, v2, v3, rfl, kh, e1, e2, hi⟩
      have kh1 : ∀ {ys : List V}, Kh h H (upd H' h (.lst ys)) := kh.trans (Kp.put (fun a ha => by rw [ha]; exact ⟨_, e1⟩) rfl)
      refine ⟨_, rfl, _, _, _, _, rfl, rfl, .inl (.inl e1), rfl, _, _, rfl, rfl, _, rfl, ?_⟩
      refine ite2 (fun _ => ?_) (fun _ => ?_)
      · refine ⟨_, rfl, _, _, _, _, rfl, rfl, .inl (.inl e1), rfl, _, rfl, _, rfl, _, _, rfl, rfl, big, _, rfl, h, _, _, 2, rfl, rfl, e1, rfl, ?_⟩
        refine ⟨_, rfl, .inl ⟨_, rfl, _, rfl, _, _, rfl, rfl, hm0, ?_⟩⟩
        exact k _ _ (Int.emod_nonneg _ (by omega)) (Int.emod_lt_of_pos _ hm0) kh1 ⟨cells, _, _, _, upd_same, by rw [upd_ne nch]; exact e2, nch, hi, hlen⟩
      · refine ⟨_, rfl, _, _, _, _, rfl, rfl, .inl (.inl e1), rfl, _, _, rfl, rfl, .inl ⟨_, rfl, _, _, rfl, rfl, (by show (0 : Int) < _; decide), _, rfl, h, _, _, 3, rfl, rfl, e1, rfl, ?_⟩⟩
        refine ⟨_, rfl, _, _, _, _, rfl, rfl, .inl (.inl upd_same), rfl, _, rfl, _, _, _, _, rfl, rfl, .inl (.inl upd_same), rfl, ?_⟩
        refine ⟨_, _, rfl, fun n => .inl ⟨_, rfl, _, rfl, _, _, rfl, rfl, hm0, ?_⟩⟩
        exact k _ _ (Int.emod_nonneg _ (by omega)) (Int.emod_lt_of_pos _ hm0) kh1 ⟨cells, _, _, _, upd_same, by rw [upd_ne nch]; exact e2, nch, hi, hlen⟩
end
end K09

namespace K09
open PySem L2 Cm
section
variable {P : Program} {w : World} {K : PySem.W.Frag} {mg : Str → Option Value} {base : Heap}
abbrev s_l_pick : Stmt := top 10
abbrev N_l_pick : List Str := ["_law_hand_here", "_law_things_here"]
theorem sc_l_pick : FnScope N_l_pick ["_law_hand_here", "_law_things_here"] (defScope s_l_pick) := ⟨rfl, rfl, rfl, by decide +kernel, rfl, by decide +kernel, by decide +kernel⟩
theorem ok_pick (T : Txt mg) (c_l_draw : Cl P w K mg base 2 "_law_draw" spDraw) (D : At K mg "_law_pick" s_l_pick ["_law_hand_here", "_law_things_here"]) : Cl P w K mg base 3 "_law_pick" (spPick K) := by
  refine cl_of D sc_l_pick (fun vs H Q E h => ?_) fun f cdv A outer s H vs Q E hr h => ?_
  · obtain ⟨h, c, a, xs, rfl, _⟩ := h
    rfl
  · obtain ⟨h, c, a, xs, rfl, hh, hx, hne, hlen, k⟩ := h
    have hpos : 0 < xs.length := List.length_pos_iff.mpr hne
    refine ⟨_, (pss_one (ps_ret (pe_ix ix_seq (pv 1) (pe_c c_l_draw hr (by decide) (by rfl) (pa_cons (pv 0) (pa_cons (pe_callB call_len_seq (by rfl) T.len (by decide +kernel) (pa_cons (pv 1) pa_nil)) pa_nil))) (fun _ _ => rfl)))), ?_⟩
    refine ⟨_, rfl, _, rfl, _, rfl, a, xs, rfl, ?_, h, c, _, rfl, hh, by omega, Int.lt_of_le_of_lt (show (xs.length : Int) ≤ 1000 by omega) (by decide), fun n H1 h0 h1 kh hh1 => ?_⟩
    · rcases hx with hx | hx
      · exact .inl hx.1
      · exact .inr hx
    · obtain ⟨j, rfl⟩ : ∃ j : Nat, n = (j : Int) := ⟨n.toNat, by omega⟩
      have hj : j < xs.length := by omega
      have hat : atI xs (j : Int) = some xs[j] := atI_nat (List.getElem?_eq_getElem hj)
      rcases hx with ⟨hx, hn⟩ | hx
      · refine .inl ⟨a, xs, _, _, rfl, rfl, ?_, hat, k _ _ (List.getElem_mem hj) kh hh1⟩
        rcases hx with (q | ⟨o, q⟩) | q
        · exact .inl (.inl (kh.st _ _ hn q))
        · exact .inl (.inr ⟨o, kh.st _ _ hn q⟩)
        · exact .inr q
      · exact .inr (.inl ⟨a, xs, _, _, rfl, rfl, kh.tup hx, hat, k _ _ (List.getElem_mem hj) kh hh1⟩)
end
end K09

namespace K09
open PySem L2 Cm
def spThings (K : PySem.W.Frag) : Sp := fun vs H Q _ => ∃ (h c : Addr) (m : Int), vs = [.ref h, .int m] ∧ Hand H h c ∧ 1 ≤ m ∧ m ≤ 14 ∧
  ∀ (d : Addr) (es : List (Int × PyData)) (kvs : List (Key × V)) (H' : Hp), Kh h H H' → Hand H' h c → H d = Option.none → ThAt K H' d es kvs → es.map (·.1) = births m.toNat → Q (.ref d) H'
theorem th_wind {b : Int} (h0 : 0 ≤ b) (h1 : b ≤ 100) : Th (.tuple [.str "wind", .int (1000 + b), .int (2000 + b)]) :=
  ⟨⟨_, _, rfl⟩, rfl, by
    have e1 : (1000 + b).natAbs < 10 ^ 12 := by omega
    have e2 : (2000 + b).natAbs < 10 ^ 12 := by omega
    have e3 : okD (.str "wind") = true := by decide +kernel
    simp only [okD, okDs] at e3 ⊢
    rw [e3, decide_eq_true e1, decide_eq_true e2]
    rfl, by simp [PyData.depth, PyData.depthAll], by
    have e1 := wt_int (show (1000 + b).natAbs < 10 ^ 12 by omega)
    have e2 := wt_int (show (2000 + b).natAbs < 10 ^ 12 by omega)
    have e3 : PyData.weight (.str "wind") ≤ 100 := by decide +kernel
    simp only [PyData.weight, PyData.weightAll] at e1 e2 e3 ⊢
    omega⟩
theorem th_wait {b n : Int} (h0 : 0 ≤ b) (h1 : b ≤ 100) (n0 : 0 ≤ n) (n1 : n < 9) : Th (.tuple [.str "wait", .int n, .tuple [.int b]]) :=
  ⟨⟨_, _, rfl⟩, rfl, by
    have e1 : b.natAbs < 10 ^ 12 := by omega
    have e2 : n.natAbs < 10 ^ 12 := by omega
    have e3 : okD (.str "wait") = true := by decide +kernel
    simp only [okD, okDs] at e3 ⊢
    rw [e3, decide_eq_true e1, decide_eq_true e2]
    rfl, by simp [PyData.depth, PyData.depthAll], by
    have e1 := wt_int (show b.natAbs < 10 ^ 12 by omega)
    have e2 := wt_int (show n.natAbs < 10 ^ 12 by omega)
    have e3 : PyData.weight (.str "wait") ≤ 100 := by decide +kernel
    simp only [PyData.weight, PyData.weightAll] at e1 e2 e3 ⊢
    omega⟩
theorem th_mark : Th (.tuple [.str "mark"]) := ⟨⟨_, _, rfl⟩, rfl, by decide +kernel, by decide +kernel, by decide +kernel⟩
theorem th_pass : Th (.tuple [.str "pass", .int 77]) := ⟨⟨_, _, rfl⟩, rfl, by decide +kernel, by decide +kernel, by decide +kernel⟩
theorem th_way : Th (.tuple [.str "way", .tuple [.str "out"], .tuple [.str "give", .int 3]]) := ⟨⟨_, _, rfl⟩, rfl, by decide +kernel, by decide +kernel, by decide +kernel⟩
section
variable {P : Program} {w : World} {K : PySem.W.Frag} {mg : Str → Option Value} {base : Heap}
abbrev s_l_things : Stmt := top 11
abbrev N_l_things : List Str := ["_law_hand_here", "_law_many", "_law_things_here", "_law_birth", "_law_pick_here"]
theorem sc_l_things : FnScope N_l_things ["_law_hand_here", "_law_many"] (defScope s_l_things) := ⟨rfl, rfl, rfl, by decide +kernel, rfl, by decide +kernel, by decide +kernel⟩
theorem ok_things (T : Txt mg) (c_l_draw : Cl P w K mg base 2 "_law_draw" spDraw) (c_l_pick : Cl P w K mg base 3 "_law_pick" (spPick K)) (D : At K mg "_law_things" s_l_things ["_law_hand_here", "_law_many"]) :
    Cl P w K mg base 4 "_law_things" (spThings K) := by
  refine cl_of D sc_l_things (fun vs H Q E h => ?_) fun f cdv A outer s H vs Q E hr h => ?_
  · obtain ⟨h, c, m, rfl, _⟩ := h
    rfl
  · obtain ⟨h, c, m, rfl, hh, hm1, hm2, k⟩ := h
    have hu := hu_of hr
    refine ⟨_, (pss_cons (ps_set (i := 2) sc_l_things.nd rfl (Or.inl rfl) pe_dnewK)
      (pss_cons (ps_for PassesOwn.never rfl (pi_range2 (by rfl) T.range (pa_cons pe_int (pa_cons (pe_op op_add pe_int (pv 1)) pa_nil))) (pg_name (i := 3) sc_l_things.nd rfl (Or.inl rfl))
        (pss_cons (ps_set (i := 4) sc_l_things.nd rfl (Or.inl rfl) (pe_c c_l_draw hr (by decide) (by rfl) (pa_cons (pv 0) (pa_cons pe_int pa_nil))))
        (pss_one (ps_if (pt_cmpR op_lt (pv 4) pe_int (nomark _))
          (pss_one (ps_dput hu (pv 2) (pv 3) (pe_tup (pa_cons pe_str (pa_cons (pe_op op_add pe_int (pv 3)) (pa_cons (pe_op op_add pe_int (pv 3)) pa_nil)))) rfl))
          (pss_one (ps_if (pt_cmpR op_lt (pv 4) pe_int (nomark _))
            (pss_one (ps_dput hu (pv 2) (pv 3) (pe_tup (pa_cons pe_str (pa_cons (pe_c c_l_draw hr (by decide) (by rfl) (pa_cons (pv 0) (pa_cons pe_int pa_nil))) (pa_cons (pe_tup (pa_cons (pv 3) pa_nil)) pa_nil)))) rfl))
            (pss_one (ps_if (pt_cmpR op_eq (pv 4) pe_int (nomark _))
              (pss_one (ps_dput hu (pv 2) (pv 3) (pe_tup (pa_cons pe_str pa_nil)) rfl))
              (pss_one (ps_dput hu (pv 2) (pv 3) (pe_c c_l_pick hr (by decide) (by rfl) (pa_cons (pv 0) (pa_cons (pe_lst (pa_cons (pe_tup (pa_cons pe_str (pa_cons pe_int pa_nil))) (pa_cons (pe_tup (pa_cons pe_str (pa_cons (pe_tup (pa_cons pe_str pa_nil)) (pa_cons (pe_tup (pa_cons pe_str (pa_cons pe_int pa_nil))) pa_nil)))) (pa_cons (pe_tup (pa_cons pe_str pa_nil)) pa_nil)))) pa_nil))) rfl))))))))))
      (pss_one (ps_ret (pv 2))))), ?_⟩
    intro d hd
    have hh0 : Hand (upd H d (.dK [])) h c := hh.same (same_new hd)
    refine ⟨_, rfl, _, _, rfl, rfl, 1, _, rfl, ⟨by omega, by omega, by omega, by omega⟩, ?_⟩
    have en : (1 + m - 1).toNat = m.toNat := by omega
    rw [en]
    refine for_it (walk_range (lo := 1) (n := m.toNat)) (fun i σ H' => ∃ (v3 v4 : Option V) (es : List (Int × PyData)) (kvs : List (Key × V)), σ = [some (.ref h), some (.int m), some (.ref d), v3, v4] ∧ Kh h H H' ∧ Hand H' h c ∧ ThAt K H' d es kvs ∧ es.map (·.1) = births i)
      ⟨none, none, [], [], rfl, hh.kh (same_new hd), hh0, ⟨upd_same, rfl, .nil, fun e he => by cases he⟩, rfl⟩ (fun _ _ _ _ _ => trivial) ?_ ?_
    · rintro i x σ H0 H1 hi ⟨v3, v4, es, kvs, rfl, kh, hh1, ht, hk⟩ ⟨rfl, rfl⟩
      have hi14 : i < 14 := by omega
      have nokey : ∀ {p : Addr}, H1 p = Option.none → p ≠ d := fun hp => (ne_of_none ht.at_ hp).symm
      refine ⟨_, rfl, h, c, _, rfl, hh1, by decide, by decide, fun n H2 n0 n1 kh2 hh2 => ?_⟩
      have kd : ∀ {H' : Hp}, Hand H' h c → (∃ kvs, H' d = some (.dK kvs)) → ¬ d = h := fun x ⟨_, e⟩ => x.ne fun xs z => by rw [e] at z; cases z
      have ndh : ¬ d = h := kd hh1 ⟨_, ht.at_⟩
      have ht2 := ht.kp kh2 ndh
      have kh12 := kh.trans kh2
      refine ⟨_, rfl, _, _, rfl, rfl, _, rfl, ?_⟩
      refine ite2 (fun _ => ?_) (fun _ => ?_)
      · refine ⟨_, rfl, _, _, rfl, rfl, _, rfl, _, _, rfl, rfl, by show 3 ≤ sizeLine; decide, fun p hp => ?_⟩
        obtain ⟨H4, es', kvs', g1, g2, g3, g4, g5⟩ := things_put (t := .tuple [.str "wind", .int (1000 + (1 + i)), .int (2000 + (1 + i))]) (v := .ref p) (kh12.trans (hh2.kh (same_new hp))) (hh2.same (same_new hp)) (ht2.same (same_new hp)) hd hk (by omega)
          (.tup (.inl (.inl upd_same)) (.cons (.str _) (.cons (.int _) (.cons (.int _) .nil)))) (th_wind (by omega) (by omega))
        exact ⟨_, rfl, _, rfl, d, H4, rfl, g1, _, _, es', kvs', rfl, g2, g3, g4, g5⟩
      · refine ⟨_, rfl, _, _, rfl, rfl, _, rfl, ?_⟩
        refine ite2 (fun _ => ?_) (fun _ => ?_)
        · refine ⟨_, rfl, h, c, _, rfl, hh2, by decide, by decide, fun n3 H3 n30 n31 kh3 hh3 => ?_⟩
          refine ⟨_, rfl, by show 1 ≤ sizeLine; decide, fun p1 hp1 => ⟨by show 3 ≤ sizeLine; decide, fun p hp => ?_⟩⟩
          have s3 : Same H3 (upd (upd H3 p1 (.tup [.int (1 + (i : Int))])) p (.tup [.str "wait", .int n3, .ref p1])) := (same_new hp1).trans (same_new hp)
          obtain ⟨H4, es', kvs', g1, g2, g3, g4, g5⟩ := things_put (t := .tuple [.str "wait", .int n3, .tuple [.int (1 + i)]]) (v := .ref p) ((kh12.trans kh3).trans (hh3.kh s3)) (hh3.same s3) ((ht2.kp kh3 ndh).same s3) hd hk (by omega)
            (.tup (.inl (.inl upd_same)) (.cons (.str _) (.cons (.int _) (.cons (.tup (.inl (.inl (by rw [upd_ne (ne_of_none upd_same hp)]; exact upd_same))) (.cons (.int _) .nil)) .nil)))) (th_wait (by omega) (by omega) n30 n31)
          exact ⟨_, rfl, _, rfl, d, H4, rfl, g1, _, _, es', kvs', rfl, g2, g3, g4, g5⟩
        · refine ⟨_, rfl, rfl, _, rfl, ?_⟩
          refine ite2 (fun _ => ?_) (fun _ => ?_)
          · refine ⟨by show 1 ≤ sizeLine; decide, fun p hp => ?_⟩
            obtain ⟨H4, es', kvs', g1, g2, g3, g4, g5⟩ := things_put (t := .tuple [.str "mark"]) (v := .ref p) (kh12.trans (hh2.kh (same_new hp))) (hh2.same (same_new hp)) (ht2.same (same_new hp)) hd hk (by omega)
              (.tup (.inl (.inl upd_same)) (.cons (.str _) .nil)) th_mark
            exact ⟨_, rfl, _, rfl, d, H4, rfl, g1, _, _, es', kvs', rfl, g2, g3, g4, g5⟩
          · refine ⟨_, rfl, by show 2 ≤ sizeLine; decide, fun p1 hp1 => ⟨by show 1 ≤ sizeLine; decide, fun p2 hp2 => ⟨by show 2 ≤ sizeLine; decide, fun p3 hp3 => ⟨by show 3 ≤ sizeLine; decide, fun p4 hp4 => ⟨by show 1 ≤ sizeLine; decide, fun p5 hp5 => ⟨by show 3 ≤ sizeLine; decide, fun l hl => ?_⟩⟩⟩⟩⟩⟩
            have t1 := same_new (o := .tup [.str "pass", .int 77]) hp1
            have t2 := same_new (o := .tup [.str "out"]) hp2
            have t3 := same_new (o := .tup [.str "give", .int 3]) hp3
            have t4 := same_new (o := .tup [.str "way", .ref p2, .ref p3]) hp4
            have t5 := same_new (o := .tup [.str "mark"]) hp5
            have t6 := same_new (o := .lst [.ref p1, .ref p4, .ref p5]) hl
            have s6 := t1.trans (t2.trans (t3.trans (t4.trans (t5.trans t6))))
            have hhL := hh2.same s6
            have nlh : l ≠ h := fun q => by
              obtain ⟨xs, e⟩ := hh2.lst
              have e2 := (t1.trans (t2.trans (t3.trans (t4.trans t5)))) _ _ e
              rw [← q, hl] at e2
              cases e2
            have d1 : Dp K _ (.ref p1) (.tuple [.str "pass", .int 77]) := .tup (.inl (.inl ((t2.trans (t3.trans (t4.trans (t5.trans t6)))) _ _ upd_same))) (.cons (.str _) (.cons (.int _) .nil))
            have d4 : Dp K _ (.ref p4) (.tuple [.str "way", .tuple [.str "out"], .tuple [.str "give", .int 3]]) :=
              .tup (.inl (.inl ((t5.trans t6) _ _ upd_same))) (.cons (.str _) (.cons (.tup (.inl (.inl ((t3.trans (t4.trans (t5.trans t6))) _ _ upd_same))) (.cons (.str _) .nil))
                (.cons (.tup (.inl (.inl ((t4.trans (t5.trans t6)) _ _ upd_same))) (.cons (.str _) (.cons (.int _) .nil))) .nil)))
            have d5 : Dp K _ (.ref p5) (.tuple [.str "mark"]) := .tup (.inl (.inl (t6 _ _ upd_same))) (.cons (.str _) .nil)
            refine ⟨h, c, l, _, rfl, hhL, .inl ⟨.inl (.inl upd_same), nlh⟩, by simp, by show 3 ≤ 1000; decide, fun v H3 hv kh3 hh3 => ?_⟩
            have kall := (kh12.trans (hh2.kh s6)).trans kh3
            have ht3 := (ht2.same s6).kp kh3 ndh
            have out : ∀ t : PyData, Dp K H3 v t → Th t → _ := fun t hv ht => things_put (h := h) kall hh3 ht3 hd hk (by omega) hv ht
            have any : ∃ t, Dp K H3 v t ∧ Th t := by
              rcases List.mem_cons.mp hv with rfl | hv
              · exact ⟨_, dp_keep (fun _ _ q => kh3.tup q) _ _ rfl d1, th_pass⟩
              · rcases List.mem_cons.mp hv with rfl | hv
                · exact ⟨_, dp_keep (fun _ _ q => kh3.tup q) _ _ rfl d4, th_way⟩
                · cases List.mem_singleton.mp hv
                  exact ⟨_, dp_keep (fun _ _ q => kh3.tup q) _ _ rfl d5, th_mark⟩
            obtain ⟨t, g, g0⟩ := any
            obtain ⟨H4, es', kvs', g1, g2, g3, g4, g5⟩ := out t g g0
            exact ⟨_, rfl, _, rfl, d, H4, rfl, g1, _, _, es', kvs', rfl, g2, g3, g4, g5⟩
    · rintro σ H1 ⟨v3, v4, es, kvs, rfl, kh, hh1, ht, hk⟩
      exact ⟨_, rfl, k d es kvs _ kh hh1 hd ht hk⟩
end
end K09

namespace K09
open PySem L2 Cm
/-- a row of at most most births out of 1 .. n -/
def spRow (K : PySem.W.Frag) : Sp := fun vs H Q _ => ∃ (h c d : Addr) (most : Int) (es : List (Int × PyData)) (kvs : List (Key × V)) (n : Nat), vs = [.ref h, .ref d, .int most] ∧ Hand H h c ∧ ThAt K H d es kvs ∧ es.map (·.1) = births n ∧ 1 ≤ n ∧ n ≤ 60 ∧
  0 ≤ most ∧ most ≤ 60 ∧ ∀ (t : Addr) (fs : List Int) (H' : Hp), Kh h H H' → Hand H' h c → SqT K H' t (fs.map V.int) → (fs.length : Int) ≤ most → (∀ b ∈ fs, b ∈ births n) → Q (.ref t) H'
theorem all_ints {K : PySem.W.Frag} {H : Hp} {P : Int → Prop} : ∀ {acc : List V} {ds : List PyData}, DpAll K H acc ds → (∀ d ∈ ds, ∃ b : Int, d = .int b ∧ P b) → ∃ fs : List Int, acc = fs.map V.int ∧ ds = fs.map PyData.int ∧ ∀ b ∈ fs, P b
  | _, _, .nil, _ => ⟨[], rfl, rfl, by simp⟩
  | _, _, .cons h t, g => by
    obtain ⟨b, rfl, hb⟩ := g _ List.mem_cons_self
    obtain ⟨fs, rfl, rfl, hf⟩ := all_ints t fun d hd => g d (List.mem_cons_of_mem _ hd)
    cases h
    exact ⟨b :: fs, rfl, rfl, fun x hx => by
      rcases List.mem_cons.mp hx with rfl | hx
      · exact hb
      · exact hf x hx⟩
section
variable {P : Program} {w : World} {K : PySem.W.Frag} {mg : Str → Option Value} {base : Heap}
abbrev s_l_row : Stmt := top 12
abbrev N_l_row : List Str := ["_law_hand_here", "_law_things_here", "_law_most", "_law_births", "_law_k"]
theorem sc_l_row : FnScope N_l_row ["_law_hand_here", "_law_things_here", "_law_most"] (defScope s_l_row) := ⟨rfl, rfl, rfl, by decide +kernel, rfl, by decide +kernel, by decide +kernel⟩
theorem ok_row (T : Txt mg) (c_l_draw : Cl P w K mg base 2 "_law_draw" spDraw) (c_l_pick : Cl P w K mg base 3 "_law_pick" (spPick K)) (D : At K mg "_law_row" s_l_row ["_law_hand_here", "_law_things_here", "_law_most"]) :
    Cl P w K mg base 4 "_law_row" (spRow K) := by
  refine cl_of D sc_l_row (fun vs H Q E h => ?_) fun f cdv A outer s H vs Q E hr h => ?_
  · obtain ⟨h, c, d, most, es, kvs, n, rfl, _⟩ := h
    rfl
  · obtain ⟨h, c, d, most, es, kvs, n, rfl, hh, ht, hk, hn1, hn2, hm0, hm1, k⟩ := h
    refine ⟨_, (pss_cons (ps_set (i := 3) sc_l_row.nd rfl (Or.inr rfl) (pe_callB (call_sortedK rfl) (by rfl) T.sorted (by decide +kernel) (pa_cons (pe_keys (pv 1)) pa_nil)))
      (pss_one (ps_ret (pe_tupleOf (by rfl) T.tuple (pe_lc (own := [("_law_k", 4)]) rfl sc_l_row.nd (pi_range1 (by rfl) T.range (pa_cons (pe_c c_l_draw hr (by decide) (by rfl) (pa_cons (pv 0) (pa_cons (pe_op op_add (pv 2) pe_int) pa_nil))) pa_nil)) (blkOk_by (N := N_l_row) (sc := defScope s_l_row) (by decide +kernel))
      (fun _ _ _ _ _ => (pg_name (i := 4) sc_l_row.nd rfl (Or.inl rfl)))
      (fun _ _ _ _ _ => pts_nil)
      (fun _ _ _ _ _ => (pe_c c_l_pick hr (by decide) (by rfl) (pa_cons (pv 0) (pa_cons (pv 3) pa_nil))))))))), ?_⟩
    refine ⟨_, rfl, d, rfl, ⟨_, ht.at_⟩, fun r hr0 => ⟨r, d, kvs, births n, rfl, upd_same, by rw [upd_ne (ne_of_none ht.at_ hr0)]; exact ht.at_, ?_, by rw [births_len]; omega, fun ys p perm _ hp => ?_⟩⟩
    · rw [ht.ks, ← hk, List.map_map]
      rfl
    · have s1 : Same H (upd (upd H r (ViewO r d)) p (.lst (ys.map V.int))) := (same_new hr0).trans (same_new hp)
      have hh1 := hh.same s1
      have hys : ∀ b ∈ ys, b ∈ births n := fun b hb => perm.mem_iff.mp hb
      have hlen : ys.length = n := by rw [perm.length_eq, births_len]
      have hph := hh1.ne (d := p)
      refine ⟨_, rfl, _, rfl, _, _, rfl, rfl, ?_⟩
      refine ⟨h, c, _, rfl, hh1, by omega, Int.lt_of_le_of_lt (show most + 1 ≤ 61 by omega) (by decide), fun m H2 m0 m1 kh2 hh2 => ?_⟩
      have pnh : p ≠ h := fun q => by
        obtain ⟨xs, e⟩ := hh.lst
        have e2 := (same_new (o := ViewO r d) hr0) _ _ e
        rw [← q, hp] at e2
        cases e2
      have hp2 : H2 p = some (.lst (ys.map V.int)) := kh2.st _ _ pnh upd_same
      refine ⟨_, rfl, by omega, by omega, fun D hD => ?_⟩
      have dn := hh2.there hD
      refine lc_draw (K := K) (M := fun a => a = h) (walk_range (lo := 0) (n := m.toNat)) (fun H => Hand H h c ∧ H p = some (.lst (ys.map V.int))) (fun x => ∃ b : Int, x = .int b ∧ b ∈ births n) (fun a ha => by rw [ha]; exact hh2.lst)
        ⟨hh2.same (same_new hD), (same_new hD) _ _ hp2⟩ (fun H ys' kH q => ⟨q.1.puts dn.1 dn.2, by rw [upd_ne (ne_of_none hp2 hD)]; exact q.2⟩) hD (by omega) (fun _ _ _ => trivial) (fun x ⟨b, e, _⟩ => by rw [e]; rfl) ?_ ?_
      · rintro i x H0 H3 hi k3 ⟨hh3, hp3⟩ ⟨rfl, rfl⟩ Q1 Q0 q1 q0
        refine ⟨rfl, ?_⟩
        refine ⟨_, rfl, _, rfl, h, c, p, _, rfl, hh3, .inl ⟨.inl (.inl hp3), pnh⟩, ?_, by rw [List.length_map]; omega, fun v H4 hv k4 hh4 => ?_⟩
        · intro e
          have := congrArg List.length e
          rw [List.length_map] at this
          simp at this
          rw [this] at hlen
          simp at hlen
          omega
        · obtain ⟨b, hb, rfl⟩ := List.mem_map.mp hv
          exact q1 _ _ (.int b) ⟨b, rfl, hys b hb⟩ k4 ⟨hh4, k4.st _ _ pnh hp3⟩ (.int b)
      · rintro H3 acc ds k3 ⟨hh3, hp3⟩ hacc ha hg hl
        obtain ⟨fs, rfl, rfl, hf⟩ := all_ints ha hg
        refine .inl ⟨D, _, rfl, .inl (.inl hacc), fun t htt => ?_⟩
        have kall := ((hh.kh s1).trans kh2).trans k3
        refine k t fs _ (kall.trans (hh3.kh (same_new htt))) (hh3.same (same_new htt)) (.inl (.inl upd_same)) ?_ hf
        rw [List.length_map] at hl
        omega
end
end K09

namespace K09
open PySem L2 Cm
abbrev Things := List (Int × PyData)
def windR (es : Things) (fs : List Int) (i : Nat) : Option (Int × Int) := (fs[i]?).bind fun b => if word es b = "wind" then some ((i : Int), b) else none
def winds (es : Things) (fs : List Int) : List (Int × Int) := (List.range fs.length).filterMap (windR es fs)
def encP (p : Int × Int) : PyData := .tuple [.int p.1, .int p.2]
theorem winds_enc (es : Things) (fs : List Int) : (List.range fs.length).filterMap (fun i => (windR es fs i).map encP) = (winds es fs).map encP := by
  unfold winds
  rw [List.map_filterMap]
structure Fr (K : PySem.W.Frag) (H : Hp) (a d : Addr) (fs : List Int) (es : Things) (kvs : List (Key × V)) : Prop where
  fr : SqT K H a (fs.map V.int)
  th : ThAt K H d es kvs
  ins : ∀ b ∈ fs, b ∈ es.map (·.1)
  len : fs.length ≤ 1000
theorem Fr.same {K : PySem.W.Frag} {H H' : Hp} {a d : Addr} {fs : List Int} {es : Things} {kvs : List (Key × V)} (x : Fr K H a d fs es kvs) (s : Same H H') : Fr K H' a d fs es kvs :=
  ⟨sqt_same s x.fr, x.th.same s, x.ins, x.len⟩
def spWindsT (K : PySem.W.Frag) : Sp := fun vs H Q _ => ∃ (a d : Addr) (fs : List Int) (es : Things) (kvs : List (Key × V)), vs = [.ref a, .ref d] ∧ Fr K H a d fs es kvs ∧
  ∀ (t : Addr) (xs : List V) (H' : Hp), Same H H' → SqT K H' t xs → DpAll K H' xs ((winds es fs).map encP) → Q (.ref t) H'
def spWindsL (K : PySem.W.Frag) : Sp := fun vs H Q _ => ∃ (a d : Addr) (fs : List Int) (es : Things) (kvs : List (Key × V)), vs = [.ref a, .ref d] ∧ Fr K H a d fs es kvs ∧
  ∀ (t : Addr) (xs : List V) (H' : Hp), Same H H' → H t = Option.none → H' t = some (.lst xs) → DpAll K H' xs ((winds es fs).map encP) → Q (.ref t) H'
section
variable {P : Program} {w : World} {K : PySem.W.Frag} {mg : Str → Option Value} {base : Heap}
abbrev s_p_winds_of : Stmt := top 1
abbrev N_p_winds_of : List Str := ["frames", "things", "position", "birth"]
theorem sc_p_winds_of : FnScope N_p_winds_of ["frames", "things"] (defScope s_p_winds_of) := ⟨rfl, rfl, rfl, by decide +kernel, rfl, by decide +kernel, by decide +kernel⟩
theorem ok_pwinds (T : Txt mg) (D : At K mg "winds_of" s_p_winds_of ["frames", "things"]) : Cl P w K mg base 1 "winds_of" (spWindsT K) := by
  refine cl_of D sc_p_winds_of (fun vs H Q E h => ?_) fun f cdv A outer s H vs Q E hr h => ?_
  · obtain ⟨a, d, fs, es, kvs, rfl, _⟩ := h
    rfl
  · obtain ⟨a, d, fs, es, kvs, rfl, x, k⟩ := h
    have hu := hu_of hr
    refine ⟨_, (pss_one (ps_ret (pe_tupleOf (by rfl) T.tuple (pe_lc (own := [("position", 2), ("birth", 3)]) (g := gTup K 2 (gCons (gName 2) (gCons (gName 3) gNil))) rfl sc_p_winds_of.nd (pi_enumT (by rfl) T.enumerate (pa_cons (pv 0) pa_nil)) (blkOk_by (N := N_p_winds_of) (sc := defScope s_p_winds_of) (by decide +kernel))
      (fun _ _ _ _ _ => pg_tup rfl (pgs_cons (pg_name (i := 2) sc_p_winds_of.nd rfl (Or.inl rfl)) (pgs_cons (pg_name (i := 3) sc_p_winds_of.nd rfl (Or.inl rfl)) pgs_nil)))
      (fun _ _ _ _ _ => (pts_one (pt_cmpR op_eq (pe_ix (kx_tup (K := K)) (pe_dget hu (pv 1) (pv 3) (fun _ _ => rfl)) pe_int (fun _ _ => rfl)) pe_str (nomark _))))
      (fun _ _ _ _ _ => (pe_tup (pa_cons (pv 2) (pa_cons (pv 3) pa_nil)))))))), ?_⟩
    refine ⟨_, rfl, a, _, rfl, x.fr, fun L hL => ?_⟩
    have hlen : (fs.map V.int).length = fs.length := List.length_map ..
    refine lc_data (K := K) (walk_enumT (xs := fs.map V.int)) (fun i => (windR es fs i).map encP) hL (by have := x.len; omega) (fun H' s1 => sqt_same s1 x.fr) (fun i _ z e => ?_) ?_ ?_
    · obtain ⟨q, _, rfl⟩ := Option.map_eq_some_iff.mp e
      rfl
    · rintro i v H1 H2 hi s1 ⟨T1, x1, x2, rfl, hT, rfl, e1, e2⟩ Q1 Q0 q1 q0
      cases e1
      obtain ⟨b, eb, rfl⟩ := map_at e2
      have s2 := s1.trans (same_new (o := .tup [.int (i : Nat), .int b]) hT)
      obtain ⟨p, its, g1, g2, g3, _⟩ := (x.th.same s2).get (x.ins b (List.mem_of_getElem? eb))
      refine ⟨T1, _, rfl, .inl (.inl upd_same), rfl, _, _, rfl, _, _, rfl, rfl, rfl, ?_⟩
      refine ⟨_, rfl, _, rfl, d, _, rfl, g1, p, its, _, _, rfl, rfl, g2, g3, rfl, _, rfl, ?_⟩
      rw [decS]
      by_cases hw : word es b = "wind"
      · rw [decide_eq_true hw]
        refine iteT ⟨_, rfl, _, rfl, by show 2 ≤ sizeLine; decide, fun q hq => ?_⟩
        refine q1 _ _ (encP ((i : Int), b)) ?_ ((same_new hT).trans (same_new hq)) (.tup (.inl (.inl upd_same)) (.cons (.int _) (.cons (.int _) .nil)))
        unfold windR
        rw [eb]
        show Option.map encP (if word es b = "wind" then some ((i : Int), b) else none) = _
        rw [if_pos hw]
        rfl
      · rw [decide_eq_false hw]
        refine iteF (q0 _ ?_ (same_new hT))
        unfold windR
        rw [eb]
        show Option.map encP (if word es b = "wind" then some ((i : Int), b) else none) = _
        rw [if_neg hw]
        rfl
    · intro H1 acc s1 hacc ha
      rw [hlen, winds_enc] at ha
      refine .inl ⟨L, _, rfl, .inl (.inl hacc), fun t ht => ?_⟩
      exact k t acc _ (s1.trans (same_new ht)) (.inl (.inl upd_same)) (dps_same (same_new ht) _ _ ha)
abbrev s_l_winds_of : Stmt := top 13
abbrev N_l_winds_of : List Str := ["_law_frames", "_law_things_here", "_law_at"]
theorem sc_l_winds_of : FnScope N_l_winds_of ["_law_frames", "_law_things_here"] (defScope s_l_winds_of) := ⟨rfl, rfl, rfl, by decide +kernel, rfl, by decide +kernel, by decide +kernel⟩
theorem ok_lwinds (T : Txt mg) (D : At K mg "_law_winds_of" s_l_winds_of ["_law_frames", "_law_things_here"]) : Cl P w K mg base 1 "_law_winds_of" (spWindsL K) := by
  refine cl_of D sc_l_winds_of (fun vs H Q E h => ?_) fun f cdv A outer s H vs Q E hr h => ?_
  · obtain ⟨a, d, fs, es, kvs, rfl, _⟩ := h
    rfl
  · obtain ⟨a, d, fs, es, kvs, rfl, x, k⟩ := h
    have hu := hu_of hr
    refine ⟨_, (pss_one (ps_ret (pe_lc (own := [("_law_at", 2)]) rfl sc_l_winds_of.nd (pi_range1 (by rfl) T.range (pa_cons (pe_callB call_len_seq (by rfl) T.len (by decide +kernel) (pa_cons (pv 0) pa_nil)) pa_nil)) (blkOk_by (N := N_l_winds_of) (sc := defScope s_l_winds_of) (by decide +kernel))
      (fun _ _ _ _ _ => (pg_name (i := 2) sc_l_winds_of.nd rfl (Or.inl rfl)))
      (fun _ _ _ _ _ => (pts_one (pt_cmpR op_eq (pe_ix (kx_tup (K := K)) (pe_dget hu (pv 1) (pe_ix (kx_tup (K := K)) (pv 0) (pv 2) (fun _ _ => rfl)) (fun _ _ => rfl)) pe_int (fun _ _ => rfl)) pe_str (nomark _))))
      (fun _ _ _ _ _ => (pe_tup (pa_cons (pv 2) (pa_cons (pe_ix (kx_tup (K := K)) (pv 0) (pv 2) (fun _ _ => rfl)) pa_nil))))))), ?_⟩
    have hlen : (fs.map V.int).length = fs.length := List.length_map ..
    have xl := x.len
    refine ⟨_, rfl, a, _, rfl, .inr x.fr, _, rfl, by omega, by omega, fun L hL => ?_⟩
    rw [hlen]
    refine lc_data (K := K) (walk_upto (n := (fs.length : Int).toNat)) (fun i => (windR es fs i).map encP) hL (by omega) (fun _ _ => trivial) (fun i _ z e => ?_) ?_ ?_
    · obtain ⟨q, _, rfl⟩ := Option.map_eq_some_iff.mp e
      rfl
    · rintro i v H0 H1 hi s1 ⟨rfl, rfl⟩ Q1 Q0 q1 q0
      have hi' : i < fs.length := by omega
      have eb : fs[i]? = some fs[i] := List.getElem?_eq_getElem hi'
      have hat : atI (fs.map V.int) ((i : Nat) : Int) = some (.int fs[i]) := by
        exact atI_nat (by rw [List.getElem?_map, eb]; rfl)
      obtain ⟨p, its, g1, g2, g3, _⟩ := (x.th.same s1).get (x.ins _ (List.getElem_mem hi'))
      refine ⟨rfl, ?_⟩
      refine ⟨_, rfl, _, rfl, _, rfl, a, _, _, _, rfl, rfl, sqt_same s1 x.fr, hat, d, _, rfl, g1, p, its, _, _, rfl, rfl, g2, g3, rfl, _, rfl, ?_⟩
      rw [decS]
      by_cases hw : word es fs[i] = "wind"
      · rw [decide_eq_true hw]
        refine iteT ⟨_, rfl, _, rfl, _, rfl, a, _, _, _, rfl, rfl, sqt_same s1 x.fr, hat, by show 2 ≤ sizeLine; decide, fun q hq => ?_⟩
        refine q1 _ _ (encP ((i : Int), fs[i])) ?_ (same_new hq) (.tup (.inl (.inl upd_same)) (.cons (.int _) (.cons (.int _) .nil)))
        unfold windR
        rw [eb]
        show Option.map encP (if word es fs[i] = "wind" then some ((i : Int), fs[i]) else none) = _
        rw [if_pos hw]
        rfl
      · rw [decide_eq_false hw]
        refine iteF (q0 _ ?_ (Same.refl _))
        unfold windR
        rw [eb]
        show Option.map encP (if word es fs[i] = "wind" then some ((i : Int), fs[i]) else none) = _
        rw [if_neg hw]
        rfl
    · intro H1 acc s1 hacc ha
      rw [show (fs.length : Int).toNat = fs.length by omega, winds_enc] at ha
      exact k L acc _ s1 hL hacc ha
end
end K09

namespace K09
open PySem L2 Cm
def common : List (Int × Int) → List (Int × Int) → Nat
  | a :: as, b :: bs => if a.2 = b.2 then common as bs + 1 else 0
  | _, _ => 0
theorem common_is : ∀ (as bs : List (Int × Int)) (i : Nat), (∀ j < i, ∃ a b, as[j]? = some a ∧ bs[j]? = some b ∧ a.2 = b.2) →
    (∀ a b, as[i]? = some a → bs[i]? = some b → a.2 ≠ b.2) → common as bs = i
  | [], bs, i, h, _ => by
    cases i with
    | zero => rfl
    | succ i =>
      obtain ⟨a, b, e, _⟩ := h 0 (by omega)
      simp at e
  | a :: as, [], i, h, _ => by
    cases i with
    | zero => rfl
    | succ i =>
      obtain ⟨a, b, _, e, _⟩ := h 0 (by omega)
      simp at e
  | a :: as, b :: bs, i, h, hn => by
    cases i with
    | zero =>
      have q := hn a b rfl rfl
      unfold common
      rw [if_neg q]
    | succ i =>
      obtain ⟨a', b', e1, e2, e3⟩ := h 0 (by omega)
      simp only [List.getElem?_cons_zero, Option.some.injEq] at e1 e2
      subst e1 e2
      unfold common
      rw [if_pos e3, common_is as bs i (fun j hj => ?_) fun x y e1 e2 => hn x y (by simpa using e1) (by simpa using e2)]
      obtain ⟨x, y, e1, e2, e3⟩ := h (j + 1) (by omega)
      exact ⟨x, y, by simpa using e1, by simpa using e2, e3⟩
theorem common_le : ∀ (as bs : List (Int × Int)), common as bs ≤ as.length ∧ common as bs ≤ bs.length
  | [], _ => by simp [common]
  | _ :: _, [] => by simp [common]
  | a :: as, b :: bs => by
    have := common_le as bs
    unfold common
    split
    · simp only [List.length_cons]
      omega
    · simp
theorem common_comm : ∀ (as bs : List (Int × Int)), common as bs = common bs as
  | [], [] => rfl
  | [], _ :: _ => rfl
  | _ :: _, [] => rfl
  | a :: as, b :: bs => by
    unfold common
    rw [common_comm as bs]
    by_cases h : a.2 = b.2
    · rw [if_pos h, if_pos h.symm]
    · rw [if_neg h, if_neg (fun q => h q.symm)]
theorem dp_enc {K : PySem.W.Frag} {H : Hp} {v : V} {p : Int × Int} (h : Dp K H v (encP p)) : ∃ t, v = .ref t ∧ SqT K H t [.int p.1, .int p.2] := by
  unfold encP at h
  cases h with
  | tup hs ha =>
    cases ha with
    | cons h1 h2 =>
      cases h1
      cases h2 with
      | cons h3 h4 =>
        cases h3
        cases h4
        exact ⟨_, rfl, hs⟩
def spShared (K : PySem.W.Frag) : Sp := fun vs H Q _ => ∃ (a b : Addr) (xs ys : List V) (as bs : List (Int × Int)), vs = [.ref a, .ref b] ∧ SqT K H a xs ∧ DpAll K H xs (as.map encP) ∧ SqT K H b ys ∧ DpAll K H ys (bs.map encP) ∧ as.length ≤ 1000 ∧ bs.length ≤ 1000 ∧
  ∀ H', Same H H' → Q (.int (common as bs : Nat)) H'
section
variable {P : Program} {w : World} {K : PySem.W.Frag} {mg : Str → Option Value} {base : Heap}
abbrev s_p_shared_many : Stmt := top 3
abbrev N_p_shared_many : List Str := ["left", "entered", "many", "one", "other"]
theorem sc_p_shared_many : FnScope N_p_shared_many ["left", "entered"] (defScope s_p_shared_many) := ⟨rfl, rfl, rfl, by decide +kernel, rfl, by decide +kernel, by decide +kernel⟩
theorem ok_shared_many (T : Txt mg) (D : At K mg "_shared_many" s_p_shared_many ["left", "entered"]) : Cl P w K mg base 1 "_shared_many" (spShared K) := by
  refine cl_of D sc_p_shared_many (fun vs H Q E h => ?_) fun f cdv A outer s H vs Q E hr h => ?_
  · obtain ⟨a, b, xs, ys, as, bs, rfl, _⟩ := h
    rfl
  · obtain ⟨a, b, xs, ys, as, bs, rfl, ha, hda, hb, hdb, la, lb, k⟩ := h
    refine ⟨_, (pss_cons (ps_set (i := 2) sc_p_shared_many.nd rfl (Or.inl rfl) pe_int)
      (pss_cons (ps_for PassesOwn.never rfl (RZ.pi_zipA (by rfl) T.zip (pa_cons (pv 0) (pa_cons (pv 1) pa_nil))) (pg_tup (by rfl) (pgs_cons (pg_name (i := 3) sc_p_shared_many.nd rfl (Or.inl rfl)) (pgs_cons (pg_name (i := 4) sc_p_shared_many.nd rfl (Or.inl rfl)) pgs_nil)))
        (pss_cons (ps_if (pt_cmpR op_ne (pe_ix ix_tup (pv 3) pe_int (fun _ _ => rfl)) (pe_ix ix_tup (pv 4) pe_int (fun _ _ => rfl)) (nomark _))
          (pss_one ps_break)
          pss_nil)
        (pss_one (ps_aug (i := 2) sc_p_shared_many.nd rfl (Or.inl rfl) pe_int ip_add))))
      (pss_one (ps_ret (pv 2))))), ?_⟩
    have lx : xs.length = as.length := by have := DpAll.len hda; rwa [List.length_map] at this
    have ly : ys.length = bs.length := by have := DpAll.len hdb; rwa [List.length_map] at this
    refine ⟨_, rfl, _, rfl, a, b, xs, ys, rfl, .inr ⟨ha, hb, ?_⟩⟩
    refine for_it (walk_zipT (xs := xs) (ys := ys) rfl) (fun i σ H' => ∃ v3 v4, σ = [some (.ref a), some (.ref b), some (.int (i : Nat)), v3, v4] ∧ Same H H' ∧ ∀ j < i, ∃ p q, as[j]? = some p ∧ bs[j]? = some q ∧ p.2 = q.2)
      ⟨none, none, rfl, Same.refl H, fun j hj => absurd hj (Nat.not_lt_zero _)⟩ (fun i σ H' _ z => ?_) ?_ ?_
    · obtain ⟨_, _, _, s1, _⟩ := z
      exact ⟨sqt_same s1 ha, sqt_same s1 hb⟩
    · rintro i v σ H1 H2 hi ⟨v3, v4, rfl, s1, hpre⟩ ⟨T1, x1, x2, rfl, hT, rfl, e1, e2⟩
      have s2 := s1.trans (same_new (o := .tup [x1, x2]) hT)
      obtain ⟨d1, g1, g2⟩ := DpAll.atV hda e1
      obtain ⟨p, ep, rfl⟩ := map_at g1
      obtain ⟨d2, g3, g4⟩ := DpAll.atV hdb e2
      obtain ⟨q, eq, rfl⟩ := map_at g3
      obtain ⟨t1, rfl, q1⟩ := dp_enc (dp_same s2 _ _ g2)
      obtain ⟨t2, rfl, q2⟩ := dp_enc (dp_same s2 _ _ g4)
      refine ⟨T1, _, rfl, .inl (.inl upd_same), rfl, _, _, rfl, _, _, rfl, rfl, ?_⟩
      refine ⟨_, rfl, t1, _, _, _, rfl, rfl, q1, rfl, _, rfl, t2, _, _, _, rfl, rfl, q2, rfl, rfl, _, rfl, ?_⟩
      by_cases h : p.2 = q.2
      · rw [show (!decide (V.int p.2 = V.int q.2)) = false by rw [h]; simp]
        refine iteF ⟨_, rfl, _, _, rfl, rfl, _, _, rfl, s2, fun j hj => ?_⟩
        by_cases hj' : j < i
        · exact hpre j hj'
        · have : j = i := by omega
          subst this
          exact ⟨p, q, ep, eq, h⟩
      · rw [show (!decide (V.int p.2 = V.int q.2)) = true by rw [decide_eq_false (fun z => h (V.int.inj z))]; rfl]
        refine iteT ?_
        have e := common_is as bs i hpre fun x y z1 z2 => by
          rw [ep] at z1
          rw [eq] at z2
          cases z1
          cases z2
          exact h
        refine ⟨_, rfl, ?_⟩
        rw [← e]
        exact k _ s2
    · rintro σ H1 ⟨v3, v4, rfl, s1, hpre⟩
      have e := common_is as bs (min xs.length ys.length) hpre fun x y z1 z2 => by
        have h1 := (List.getElem?_eq_some_iff.mp z1).1
        have h2 := (List.getElem?_eq_some_iff.mp z2).1
        omega
      refine ⟨_, rfl, ?_⟩
      rw [← e]
      exact k _ s1
end
end K09

namespace K09
open PySem L2 Cm
theorem cut_from {xs : List V} {k : Nat} (h : k ≤ xs.length) : cutV xs (some (k : Int)) Option.none = xs.drop k := by
  unfold cutV
  rw [HT.sIx_nat, HT.sIx_none, Nat.min_eq_left h]
  exact List.take_of_length_le (by rw [List.length_drop]; omega)
theorem cut_to {xs : List V} {k : Nat} (h : k ≤ xs.length) : cutV xs Option.none (some (k : Int)) = xs.take k := by
  unfold cutV
  rw [HT.sIx_nat, HT.sIx_none, Nat.min_eq_left h, List.drop_zero, Nat.sub_zero]
/-- t[k:] of a tuple: whichever object it is -/
theorem sl_from {K : PySem.W.Frag} {a : Addr} {xs : List V} {k : Nat} {σ : L2.St} {H : Hp} {Q : VK} (hs : SqT K H a xs) (hk : k ≤ xs.length) (h : ∀ t H', Same H H' → SqT K H' t (xs.drop k) → Q (.ref t) H') :
    (tNoPart σ H fun u H1 => rSlA K (.ref a) (some (k : Int)) u H1 Q) := by
  refine ⟨a, xs, rfl, hs, fun q => ?_, fun _ p hp => ?_⟩
  · rw [HT.sIx_nat, Nat.min_eq_left hk] at q
    have : k = 0 := q.1
    subst this
    exact h a H (Same.refl H) hs
  · rw [cut_from hk]
    exact h p _ (same_new hp) (.inl (.inl upd_same))
theorem sl_to {K : PySem.W.Frag} {a : Addr} {xs : List V} {k : Nat} {H : Hp} {Q : VK} (hs : SqT K H a xs) (hk : k ≤ xs.length) (h : ∀ t H', Same H H' → SqT K H' t (xs.take k) → Q (.ref t) H') :
    rSlA K (.ref a) Option.none (some (k : Int)) H Q := by
  refine ⟨a, xs, rfl, hs, fun q => ?_, fun _ p hp => ?_⟩
  · rw [HT.sIx_nat, Nat.min_eq_left hk] at q
    have e : xs.take k = xs := List.take_of_length_le (by rw [q.2]; exact Nat.le_refl _)
    refine h a H (Same.refl H) ?_
    rw [e]
    exact hs
  · rw [cut_to hk]
    exact h p _ (same_new hp) (.inl (.inl upd_same))
abbrev Dd := Str × Int × Int
def encD (p : Dd) : PyData := .tuple [.str p.1, .int p.2.1, .int p.2.2]
def deedsM (l e : List (Int × Int)) : List Dd := ((l.drop (common l e)).reverse.map fun p => (("leave" : Str), p.1, p.2)) ++ (e.drop (common l e)).map fun p => (("enter" : Str), p.1, p.2)
theorem range_at {α β : Type} (xs : List α) (f : α → β) : (List.range xs.length).filterMap (fun i => (xs[i]?).map f) = xs.map f := by
  induction xs with
  | nil => rfl
  | cons a r ih =>
    rw [List.length_cons, List.range_succ_eq_map, List.filterMap_cons]
    simp only [List.getElem?_cons_zero, Option.map_some, List.filterMap_map, List.map_cons]
    refine congrArg _ (Eq.trans (filterMap_eqs _ fun k _ => ?_) ih)
    simp
/-- [(wd, a, b) for a, b in xs] -/
theorem lc_pairs {K : PySem.W.Frag} {J : It} {G : Hp → Prop} {xs : List V} {ps : List (Int × Int)} {wd : Str} {i j : Nat} {own : List Nat} {σ : L2.St} {H1 : Hp} {D : Addr} {Qd : Hp → Prop}
    (wk : Walk J xs.length G (YAt xs)) (hx : DpAll K H1 xs (ps.map encP)) (hn : ps.length ≤ 1000) (hD : H1 D = Option.none) (hG : ∀ H, Same H1 H → G H) (hi : ∀ p : Int × Int, (((wipe σ own).set i (some (.int p.1))).set j (some (.int p.2)))[i]? = some (some (.int p.1)))
    (hj : ∀ p : Int × Int, (((wipe σ own).set i (some (.int p.1))).set j (some (.int p.2)))[j]? = some (some (.int p.2)))
    (hw : ∀ p : Int × Int, wipe (((wipe σ own).set i (some (.int p.1))).set j (some (.int p.2))) own = wipe σ own)
    (hd : ∀ H acc, Same H1 H → H D = some (.lst acc) → DpAll K H acc ((ps.map fun p => (wd, p.1, p.2)).map encD) → Qd H) :
    ∃ W : Nat → Nat → Hp → Prop, (∃ m, W 0 m (upd H1 D (.lst []))) ∧ ∀ m0 m H, W m0 m H →
      (J.stop m0 H ∧ Qd H) ∨ (J.go m0 H ∧ ∃ Nx : Hp → Prop, (∀ H', Nx H' → ∃ m', m' < m ∧ W (m0 + 1) m' H') ∧ ∀ x H', J.yld m0 H x H' → (gTup K 2 (gCons (gName i) (gCons (gName j) gNil))) x (wipe σ own) H' fun σ2 H2 => wipe σ2 own = wipe σ own ∧ tYes σ2 H2 fun b H3 =>
        if b = true then (tTup (tCons (tC (.str wd)) (tCons (tVar i) (tCons (tVar j) tNil)))) σ2 H3 fun y H4 => ∃ acc, H4 D = some (.lst acc) ∧ acc.length < sizeLine ∧ Nx (upd H4 D (.lst (acc ++ [y]))) else Nx H3) := by
  have lx : xs.length = ps.length := by have := DpAll.len hx; rwa [List.length_map] at this
  refine lc_data (K := K) wk (fun m => (ps[m]?).map fun p => encD (wd, p.1, p.2)) hD (by omega) hG (fun m _ z e => ?_) ?_ ?_
  · obtain ⟨q, _, rfl⟩ := Option.map_eq_some_iff.mp e
    rfl
  · rintro m v H0 H2 hm s1 ⟨rfl, e2⟩ Q1 Q0 q1 q0
    obtain ⟨d1, g1, g2⟩ := DpAll.atV hx e2
    obtain ⟨p, ep, rfl⟩ := map_at g1
    obtain ⟨t1, rfl, h1⟩ := dp_enc (dp_same s1 _ _ g2)
    refine ⟨t1, _, rfl, h1, rfl, _, _, rfl, _, _, rfl, rfl, hw p, ?_⟩
    refine iteT (B := Q0 H2) ⟨.int p.1, hi p, .int p.2, hj p, by show 3 ≤ sizeLine; decide, fun q hq => ?_⟩
    exact q1 _ _ (encD (wd, p.1, p.2)) (by rw [ep]; rfl) (same_new hq) (.tup (.inl (.inl upd_same)) (.cons (.str _) (.cons (.int _) (.cons (.int _) .nil))))
  · intro H2 acc s1 hacc ha
    refine hd H2 acc s1 hacc ?_
    rw [lx, range_at] at ha
    rw [List.map_map]
    exact ha
def spDeeds (K : PySem.W.Frag) : Sp := fun vs H Q _ => ∃ (a b d : Addr) (f1 f2 : List Int) (es : Things) (kvs : List (Key × V)), vs = [.ref a, .ref b, .ref d] ∧ Fr K H a d f1 es kvs ∧ Fr K H b d f2 es kvs ∧
  ∀ (t : Addr) (xs : List V) (H' : Hp), Same H H' → SqT K H' t xs → DpAll K H' xs ((deedsM (winds es f1) (winds es f2)).map encD) → Q (.ref t) H'
def spMany (K : PySem.W.Frag) : Sp := fun vs H Q _ => ∃ (a b d : Addr) (f1 f2 : List Int) (es : Things) (kvs : List (Key × V)), vs = [.ref a, .ref b, .ref d] ∧ Fr K H a d f1 es kvs ∧ Fr K H b d f2 es kvs ∧
  ∀ (H' : Hp), Same H H' → Q (.int (common (winds es f1) (winds es f2) : Nat)) H'
theorem winds_len (es : Things) (fs : List Int) : (winds es fs).length ≤ fs.length := by
  unfold winds
  exact Nat.le_trans (List.length_filterMap_le _ _) (by rw [List.length_range]; exact Nat.le_refl _)
section
variable {P : Program} {w : World} {K : PySem.W.Frag} {mg : Str → Option Value} {base : Heap}
abbrev s_p_shared_winds : Stmt := top 2
abbrev N_p_shared_winds : List Str := ["present", "goal", "things"]
theorem sc_p_shared_winds : FnScope N_p_shared_winds ["present", "goal", "things"] (defScope s_p_shared_winds) := ⟨rfl, rfl, rfl, by decide +kernel, rfl, by decide +kernel, by decide +kernel⟩
theorem ok_shared_winds (c_p_winds_of : Cl P w K mg base 1 "winds_of" (spWindsT K)) (c_p_shared_many : Cl P w K mg base 1 "_shared_many" (spShared K)) (D : At K mg "shared_winds" s_p_shared_winds ["present", "goal", "things"]) :
    Cl P w K mg base 2 "shared_winds" (spMany K) := by
  refine cl_of D sc_p_shared_winds (fun vs H Q E h => ?_) fun f cdv A outer s H vs Q E hr h => ?_
  · obtain ⟨a, b, d, f1, f2, es, kvs, rfl, _⟩ := h
    rfl
  · obtain ⟨a, b, d, f1, f2, es, kvs, rfl, x1, x2, k⟩ := h
    refine ⟨_, (pss_one (ps_ret (pe_c c_p_shared_many hr (by decide) (by rfl) (pa_cons (pe_c c_p_winds_of hr (by decide) (by rfl) (pa_cons (pv 0) (pa_cons (pv 2) pa_nil))) (pa_cons (pe_c c_p_winds_of hr (by decide) (by rfl) (pa_cons (pv 1) (pa_cons (pv 2) pa_nil))) pa_nil))))), ?_⟩
    refine ⟨_, rfl, _, rfl, a, d, f1, es, kvs, rfl, x1, fun t1 xs1 H1 s1 ht1 hd1 => ?_⟩
    refine ⟨_, rfl, _, rfl, b, d, f2, es, kvs, rfl, x2.same s1, fun t2 xs2 H2 s2 ht2 hd2 => ?_⟩
    refine ⟨t1, t2, xs1, xs2, _, _, rfl, sqt_same s2 ht1, dps_same s2 _ _ hd1, ht2, hd2, Nat.le_trans (winds_len _ _) x1.len, Nat.le_trans (winds_len _ _) x2.len, fun H3 s3 => k H3 ((s1.trans s2).trans s3)⟩
abbrev s_p_deeds_of_way : Stmt := top 4
abbrev N_p_deeds_of_way : List Str := ["present", "goal", "things", "left", "entered", "many", "deeds", "position", "birth"]
theorem sc_p_deeds_of_way : FnScope N_p_deeds_of_way ["present", "goal", "things"] (defScope s_p_deeds_of_way) := ⟨rfl, rfl, rfl, by decide +kernel, rfl, by decide +kernel, by decide +kernel⟩
theorem ok_pdeeds (T : Txt mg) (c_p_winds_of : Cl P w K mg base 1 "winds_of" (spWindsT K)) (c_p_shared_many : Cl P w K mg base 1 "_shared_many" (spShared K)) (D : At K mg "deeds_of_way" s_p_deeds_of_way ["present", "goal", "things"]) :
    Cl P w K mg base 2 "deeds_of_way" (spDeeds K) := by
  refine cl_of D sc_p_deeds_of_way (fun vs H Q E h => ?_) fun f cdv A outer s H vs Q E hr h => ?_
  · obtain ⟨a, b, d, f1, f2, es, kvs, rfl, _⟩ := h
    rfl
  · obtain ⟨a, b, d, f1, f2, es, kvs, rfl, x1, x2, k⟩ := h
    refine ⟨_, (pss_cons (ps_set (i := 3) sc_p_deeds_of_way.nd rfl (Or.inl rfl) (pe_c c_p_winds_of hr (by decide) (by rfl) (pa_cons (pv 0) (pa_cons (pv 2) pa_nil))))
      (pss_cons (ps_set (i := 4) sc_p_deeds_of_way.nd rfl (Or.inl rfl) (pe_c c_p_winds_of hr (by decide) (by rfl) (pa_cons (pv 1) (pa_cons (pv 2) pa_nil))))
      (pss_cons (ps_set (i := 5) sc_p_deeds_of_way.nd rfl (Or.inl rfl) (pe_c c_p_shared_many hr (by decide) (by rfl) (pa_cons (pv 3) (pa_cons (pv 4) pa_nil))))
      (pss_cons (ps_setLc (i := 6) (own := [("position", 7), ("birth", 8)]) (g := gTup K 2 (gCons (gName 7) (gCons (gName 8) gNil))) rfl sc_p_deeds_of_way.nd rfl rfl (sw_true rfl rfl rfl (by decide +kernel)) (pi_tup (pe_revT (pe_slice sl_tupA (pv 3) (po_some (pv 5)) po_none))) (blkOk_by (N := N_p_deeds_of_way) (sc := defScope s_p_deeds_of_way) (by decide +kernel))
      (fun _ _ _ _ _ => (pg_tup rfl (pgs_cons (pg_name (i := 7) sc_p_deeds_of_way.nd rfl (Or.inl rfl)) (pgs_cons (pg_name (i := 8) sc_p_deeds_of_way.nd rfl (Or.inl rfl)) pgs_nil))))
      (fun _ _ _ _ _ => pts_nil)
      (fun _ _ _ _ _ => (pe_tup (pa_cons pe_str (pa_cons (pv 7) (pa_cons (pv 8) pa_nil))))))
      (pss_one (ps_ret (pe_tupleOf (by rfl) T.tuple (pe_op op_cat (pv 6) (pe_lc (own := [("position", 7), ("birth", 8)]) (g := gTup K 2 (gCons (gName 7) (gCons (gName 8) gNil))) rfl sc_p_deeds_of_way.nd (pi_tup (pe_slice sl_tupA (pv 4) (po_some (pv 5)) po_none)) (blkOk_by (N := N_p_deeds_of_way) (sc := defScope s_p_deeds_of_way) (by decide +kernel))
      (fun _ _ _ _ _ => (pg_tup rfl (pgs_cons (pg_name (i := 7) sc_p_deeds_of_way.nd rfl (Or.inl rfl)) (pgs_cons (pg_name (i := 8) sc_p_deeds_of_way.nd rfl (Or.inl rfl)) pgs_nil))))
      (fun _ _ _ _ _ => pts_nil)
      (fun _ _ _ _ _ => (pe_tup (pa_cons pe_str (pa_cons (pv 7) (pa_cons (pv 8) pa_nil)))))))))))))), ?_⟩
    refine ⟨_, rfl, _, rfl, a, d, f1, es, kvs, rfl, x1, fun t1 xs1 H1 s1 ht1 hd1 => ?_⟩
    refine ⟨_, rfl, _, rfl, b, d, f2, es, kvs, rfl, x2.same s1, fun t2 xs2 H2 s2 ht2 hd2 => ?_⟩
    have w1 : (winds es f1).length ≤ 1000 := Nat.le_trans (winds_len _ _) x1.len
    have w2 : (winds es f2).length ≤ 1000 := Nat.le_trans (winds_len _ _) x2.len
    have l1 : xs1.length = (winds es f1).length := by have := DpAll.len hd1; rwa [List.length_map] at this
    have l2 : xs2.length = (winds es f2).length := by have := DpAll.len hd2; rwa [List.length_map] at this
    have hc := common_le (winds es f1) (winds es f2)
    refine ⟨_, rfl, _, rfl, t1, t2, xs1, xs2, _, _, rfl, sqt_same s2 ht1, dps_same s2 _ _ hd1, ht2, hd2, w1, w2, fun H3 s3 => ?_⟩
    refine ⟨_, rfl, _, rfl, _, rfl, ?_⟩
    refine sl_from (sqt_same (s2.trans s3) ht1) (by omega) fun t3 H4 s4 ht3 => ?_
    refine ⟨t3, _, rfl, ht3, fun t4 hp4 => ⟨t4, rfl, ⟨_, .inl (.inl upd_same)⟩, fun D1 hD1 => ?_⟩⟩
    have s14 := ((s2.trans s3).trans s4).trans (same_new (o := .tup (xs1.drop (common (winds es f1) (winds es f2))).reverse) hp4)
    have hr1 : DpAll K (upd H4 t4 (.tup (xs1.drop (common (winds es f1) (winds es f2))).reverse)) (xs1.drop (common (winds es f1) (winds es f2))).reverse (((winds es f1).drop (common (winds es f1) (winds es f2))).reverse.map encP) := by
      rw [List.map_reverse, List.map_drop]
      exact DpAll.rev (DpAll.drop _ (dps_same s14 _ _ hd1))
    refine lc_pairs (wd := "leave") (walk_tup (K := K)) hr1 (by rw [List.length_reverse, List.length_drop]; omega) hD1 (fun H s => sqt_same s (.inl (.inl upd_same))) (fun _ => rfl) (fun _ => rfl) (fun _ => rfl) fun H5 acc1 s5 hacc1 hda1 => ?_
    refine ⟨_, rfl, _, rfl, _, rfl, _, rfl, ?_⟩
    refine sl_from (sqt_same (((s3.trans s4).trans (same_new hp4)).trans s5) ht2) (by omega) fun t6 H6 s6 ht6 => ?_
    refine ⟨t6, rfl, ⟨_, ht6⟩, fun D2 hD2 => ?_⟩
    have hr2 : DpAll K H6 (xs2.drop (common (winds es f1) (winds es f2))) (((winds es f2).drop (common (winds es f1) (winds es f2))).map encP) := by
      rw [List.map_drop]
      exact DpAll.drop _ (dps_same ((((s3.trans s4).trans (same_new hp4)).trans s5).trans s6) _ _ hd2)
    refine lc_pairs (wd := "enter") (walk_tup (K := K)) hr2 (by rw [List.length_drop]; omega) hD2 (fun H s => sqt_same s ht6) (fun _ => rfl) (fun _ => rfl) (fun _ => rfl) fun H7 acc2 s7 hacc2 hda2 => ?_
    have hl1 := DpAll.len hda1
    have hl2 := DpAll.len hda2
    simp only [List.length_map, List.length_reverse, List.length_drop] at hl1 hl2
    refine ⟨D1, D2, acc1, acc2, rfl, rfl, (s6.trans s7) _ _ hacc1, hacc2, Nat.le_trans (show acc1.length + acc2.length ≤ 2000 by omega) (by decide), fun p hp => ?_⟩
    refine .inl ⟨p, _, rfl, .inl (.inl upd_same), fun t ht => ?_⟩
    have sall := (same_new (o := .lst (acc1 ++ acc2)) hp).trans (same_new (o := .tup (acc1 ++ acc2)) ht)
    refine k t _ _ ((((s1.trans s14).trans s5).trans (s6.trans s7)).trans sall) (.inl (.inl upd_same)) ?_
    unfold deedsM
    rw [List.map_append]
    exact DpAll.app (dps_same ((s6.trans s7).trans sall) _ _ hda1) (dps_same sall _ _ hda2)
end
end K09

namespace K09
open PySem L2 Cm
/-- how many frames lie up to and with the topmost mark -/
def cutM (es : Things) (fs : List Int) : Nat → Nat
  | 0 => 0
  | n + 1 => if word es (fs.getD n 0) = "mark" then n + 1 else cutM es fs n
theorem cutM_le (es : Things) (fs : List Int) : ∀ n, cutM es fs n ≤ n
  | 0 => Nat.le_refl _
  | n + 1 => by
    have := cutM_le es fs n
    unfold cutM
    split <;> omega
theorem cutM_at (es : Things) (fs : List Int) : ∀ n, cutM es fs n = 0 ∨ ∃ j, cutM es fs n = j + 1 ∧ j < n ∧ word es (fs.getD j 0) = "mark"
  | 0 => .inl rfl
  | n + 1 => by
    unfold cutM
    split
    · rename_i h
      exact .inr ⟨n, rfl, by omega, h⟩
    · rcases cutM_at es fs n with h | ⟨j, h1, h2, h3⟩
      · exact .inl h
      · exact .inr ⟨j, h1, by omega, h3⟩
theorem cutM_top (es : Things) (fs : List Int) : ∀ n j, j < n → word es (fs.getD j 0) = "mark" → j + 1 ≤ cutM es fs n
  | 0, j, h, _ => absurd h (Nat.not_lt_zero _)
  | n + 1, j, h, hw => by
    unfold cutM
    split
    · omega
    · rename_i q
      by_cases e : j = n
      · subst e
        exact absurd hw q
      · exact cutM_top es fs n j (by omega) hw
def markR (es : Things) (fs : List Int) (i : Nat) : Option Int := (fs[i]?).bind fun b => if word es b = "mark" then some ((i : Int) + 1) else none
def marks (es : Things) (fs : List Int) : List Int := (List.range fs.length).filterMap (markR es fs)
theorem marks_mem {es : Things} {fs : List Int} {m : Int} : m ∈ marks es fs ↔ ∃ j, j < fs.length ∧ word es (fs.getD j 0) = "mark" ∧ m = (j : Int) + 1 := by
  unfold marks
  rw [List.mem_filterMap]
  constructor
  · rintro ⟨j, hj, e⟩
    have hj' := List.mem_range.mp hj
    unfold markR at e
    rw [List.getElem?_eq_getElem hj'] at e
    have e' : (if word es fs[j] = "mark" then some ((j : Int) + 1) else none) = some m := e
    split at e'
    · rename_i h
      refine ⟨j, hj', ?_, (Option.some.inj e').symm⟩
      rw [List.getD_eq_getElem?_getD, List.getElem?_eq_getElem hj']
      exact h
    · cases e'
  · rintro ⟨j, hj, h, rfl⟩
    refine ⟨j, List.mem_range.mpr hj, ?_⟩
    unfold markR
    rw [List.getElem?_eq_getElem hj]
    rw [List.getD_eq_getElem?_getD, List.getElem?_eq_getElem hj] at h
    exact if_pos h
theorem marks_max {es : Things} {fs : List Int} {m : Int} (h1 : m ∈ (0 : Int) :: marks es fs) (h2 : ∀ y, y ∈ (0 : Int) :: marks es fs → y ≤ m) : m = (cutM es fs fs.length : Nat) := by
  have a : (cutM es fs fs.length : Int) ≤ m := by
    rcases cutM_at es fs fs.length with h | ⟨j, e, hj, hw⟩
    · rw [h]
      exact h2 0 List.mem_cons_self
    · rw [e]
      exact h2 _ (List.mem_cons_of_mem _ (marks_mem.mpr ⟨j, hj, hw, by omega⟩))
  have b : m ≤ (cutM es fs fs.length : Int) := by
    rcases List.mem_cons.mp h1 with rfl | h1
    · omega
    · obtain ⟨j, hj, hw, rfl⟩ := marks_mem.mp h1
      have := cutM_top es fs fs.length j hj hw
      omega
  omega
def turnM (ds : List Dd) : List Dd := ds.reverse.map fun p => (if p.1 = ("leave" : Str) then ("enter" : Str) else "leave", p.2)
theorem turn_deeds (l e : List (Int × Int)) : turnM (deedsM l e) = deedsM e l := by
  unfold turnM deedsM
  rw [List.reverse_append, List.map_append, common_comm e l]
  congr 1
  · rw [← List.map_reverse, List.map_map]
    refine List.map_congr_left fun p _ => ?_
    show (if ("enter" : Str) = "leave" then ("enter" : Str) else "leave", p.1, p.2) = _
    rw [if_neg (by decide +kernel)]
  · rw [← List.map_reverse, List.reverse_reverse, List.map_map]
    refine List.map_congr_left fun p _ => ?_
    show (if ("leave" : Str) = "leave" then ("enter" : Str) else "leave", p.1, p.2) = _
    rw [if_pos rfl]
/-- a number out of frames and things -/
def spNum (K : PySem.W.Frag) (g : Things → List Int → Nat) : Sp := fun vs H Q _ => ∃ (a d : Addr) (fs : List Int) (es : Things) (kvs : List (Key × V)), vs = [.ref a, .ref d] ∧ Fr K H a d fs es kvs ∧
  ∀ (H' : Hp), Same H H' → Q (.int (g es fs : Nat)) H'
def cutAll (es : Things) (fs : List Int) : Nat := cutM es fs fs.length
section
variable {P : Program} {w : World} {K : PySem.W.Frag} {mg : Str → Option Value} {base : Heap}
abbrev s_p_mark_cut : Stmt := top 5
abbrev N_p_mark_cut : List Str := ["frames", "things", "many"]
theorem sc_p_mark_cut : FnScope N_p_mark_cut ["frames", "things"] (defScope s_p_mark_cut) := ⟨rfl, rfl, rfl, by decide +kernel, rfl, by decide +kernel, by decide +kernel⟩
theorem ok_mark_cut (T : Txt mg) (D : At K mg "mark_cut" s_p_mark_cut ["frames", "things"]) : Cl P w K mg base 1 "mark_cut" (spNum K cutAll) := by
  refine cl_of D sc_p_mark_cut (fun vs H Q E h => ?_) fun f cdv A outer s H vs Q E hr h => ?_
  · obtain ⟨a, d, fs, es, kvs, rfl, _⟩ := h
    rfl
  · obtain ⟨a, d, fs, es, kvs, rfl, x, k⟩ := h
    have hu := hu_of hr
    refine ⟨_, (pss_cons (ps_for PassesOwn.never rfl (pi_range3 (by rfl) T.range (pa_cons (pe_callB call_len_seq (by rfl) T.len (by decide +kernel) (pa_cons (pv 0) pa_nil)) (pa_cons pe_int (pa_cons (pe_un un_neg pe_int) pa_nil)))) (pg_name (i := 2) sc_p_mark_cut.nd rfl (Or.inl rfl))
        (pss_one (ps_if (pt_cmpR op_eq (pe_ix ix_tup (pe_dget hu (pv 1) (pe_ix ix_tup (pv 0) (pe_op op_sub (pv 2) pe_int) (fun _ _ => rfl)) (fun _ _ => rfl)) pe_int (fun _ _ => rfl)) pe_str (nomark _))
          (pss_one (ps_ret (pv 2)))
          pss_nil)))
      (pss_one (ps_ret pe_int))), ?_⟩
    have hlen : (fs.map V.int).length = fs.length := List.length_map ..
    have xl := x.len
    refine ⟨_, rfl, a, _, rfl, .inr x.fr, _, rfl, _, _, _, _, rfl, RgC.neg (by omega) (by omega) (by decide) (by decide), ?_⟩
    rw [hlen]
    refine for_it (walk_rangeC (n := ((fs.length : Int) - 0).toNat)) (fun i σ H' => ∃ v, σ = [some (.ref a), some (.ref d), v] ∧ Same H H' ∧ cutAll es fs = cutM es fs (fs.length - i)) ⟨none, rfl, Same.refl H, rfl⟩ (fun _ _ _ _ _ => trivial) ?_ ?_
    · rintro i v σ H0 H1 hi ⟨v2, rfl, s1, e⟩ ⟨rfl, rfl⟩
      have hj : fs.length - i = (fs.length - i - 1) + 1 := by omega
      have hlt : fs.length - i - 1 < fs.length := by omega
      have eb : fs[fs.length - i - 1]? = some fs[fs.length - i - 1] := List.getElem?_eq_getElem hlt
      have ed : fs.getD (fs.length - i - 1) 0 = fs[fs.length - i - 1] := by rw [List.getD_eq_getElem?_getD, eb]; rfl
      have ei : ((fs.length : Int) + (i : Int) * -1) - 1 = ((fs.length - i - 1 : Nat) : Int) := by omega
      have hat : atI (fs.map V.int) (((fs.length : Int) + (i : Int) * -1) - 1) = some (.int fs[fs.length - i - 1]) := by
        rw [ei]
        exact atI_nat (by rw [List.getElem?_map, eb]; rfl)
      obtain ⟨p, its, g1, g2, g3, _⟩ := (x.th.same s1).get (x.ins _ (List.getElem_mem hlt))
      rw [hj] at e
      unfold cutM at e
      rw [ed] at e
      refine ⟨_, rfl, _, rfl, _, rfl, _, _, rfl, rfl, a, _, _, _, rfl, rfl, sqt_same s1 x.fr, hat, d, _, rfl, g1, p, its, _, _, rfl, rfl, g2, g3, rfl, _, rfl, ?_⟩
      rw [decS]
      by_cases hw : word es fs[fs.length - i - 1] = "mark"
      · rw [decide_eq_true hw]
        rw [if_pos hw] at e
        refine iteT ⟨_, rfl, ?_⟩
        have ez : ((fs.length : Int) + (i : Int) * -1) = ((cutAll es fs : Nat) : Int) := by rw [e]; omega
        show Q (.int ((fs.length : Int) + (i : Int) * -1)) H1
        rw [ez]
        exact k _ s1
      · rw [decide_eq_false hw]
        rw [if_neg hw] at e
        refine iteF ⟨_, rfl, s1, ?_⟩
        rw [e]
        congr 1
    · rintro σ H1 ⟨v2, rfl, s1, e⟩
      have e0 : cutAll es fs = 0 := by
        rw [e, show fs.length - ((fs.length : Int) - 0).toNat = 0 by omega]
        rfl
      show Q (.int 0) H1
      have := k H1 s1
      rw [e0] at this
      exact this
abbrev s_l_mark_end : Stmt := top 17
abbrev N_l_mark_end : List Str := ["_law_frames", "_law_things_here", "_law_ends", "_law_at", "_law_birth"]
theorem sc_l_mark_end : FnScope N_l_mark_end ["_law_frames", "_law_things_here"] (defScope s_l_mark_end) := ⟨rfl, rfl, rfl, by decide +kernel, rfl, by decide +kernel, by decide +kernel⟩
theorem ok_mark_end (T : Txt mg) (D : At K mg "_law_mark_end" s_l_mark_end ["_law_frames", "_law_things_here"]) : Cl P w K mg base 1 "_law_mark_end" (spNum K cutAll) := by
  refine cl_of D sc_l_mark_end (fun vs H Q E h => ?_) fun f cdv A outer s H vs Q E hr h => ?_
  · obtain ⟨a, d, fs, es, kvs, rfl, _⟩ := h
    rfl
  · obtain ⟨a, d, fs, es, kvs, rfl, x, k⟩ := h
    have hu := hu_of hr
    refine ⟨_, (pss_cons (ps_setLc (i := 2) (own := [("_law_at", 3), ("_law_birth", 4)]) (g := gTup K 2 (gCons (gName 3) (gCons (gName 4) gNil))) rfl sc_l_mark_end.nd rfl rfl (sw_true rfl rfl rfl (by decide +kernel)) (pi_enumT (by rfl) T.enumerate (pa_cons (pv 0) pa_nil)) (blkOk_by (N := N_l_mark_end) (sc := defScope s_l_mark_end) (by decide +kernel))
      (fun _ _ _ _ _ => (pg_tup rfl (pgs_cons (pg_name (i := 3) sc_l_mark_end.nd rfl (Or.inl rfl)) (pgs_cons (pg_name (i := 4) sc_l_mark_end.nd rfl (Or.inl rfl)) pgs_nil))))
      (fun _ _ _ _ _ => (pts_one (pt_cmpR op_eq (pe_ix (kx_tup (K := K)) (pe_dget hu (pv 1) (pv 4) (fun _ _ => rfl)) pe_int (fun _ _ => rfl)) pe_str (nomark _))))
      (fun _ _ _ _ _ => (pe_op op_add (pv 3) pe_int)))
      (pss_one (ps_ret (pe_callB (cr_max rfl) (by rfl) T.max (by decide +kernel) (pa_cons (pe_op op_cat (pe_lst (pa_cons pe_int pa_nil)) (pv 2)) pa_nil))))), ?_⟩
    have hlen : (fs.map V.int).length = fs.length := List.length_map ..
    have xl := x.len
    refine ⟨_, rfl, a, _, rfl, x.fr, fun L hL => ?_⟩
    refine lc_data (K := K) (walk_enumT (xs := fs.map V.int)) (fun i => (markR es fs i).map PyData.int) hL (by omega) (fun H' s1 => sqt_same s1 x.fr) (fun i _ z e => ?_) ?_ ?_
    · obtain ⟨q, _, rfl⟩ := Option.map_eq_some_iff.mp e
      rfl
    · rintro i v H1 H2 hi s1 ⟨T1, x1, x2, rfl, hT, rfl, e1, e2⟩ Q1 Q0 q1 q0
      cases e1
      obtain ⟨b, eb, rfl⟩ := map_at e2
      have s2 := s1.trans (same_new (o := .tup [.int (i : Nat), .int b]) hT)
      obtain ⟨p, its, g1, g2, g3, _⟩ := (x.th.same s2).get (x.ins b (List.mem_of_getElem? eb))
      refine ⟨T1, _, rfl, .inl (.inl upd_same), rfl, _, _, rfl, _, _, rfl, rfl, rfl, ?_⟩
      refine ⟨_, rfl, _, rfl, d, _, rfl, g1, p, its, _, _, rfl, rfl, g2, g3, rfl, _, rfl, ?_⟩
      rw [decS]
      by_cases hw : word es b = "mark"
      · rw [decide_eq_true hw]
        refine iteT ⟨_, rfl, _, _, rfl, rfl, ?_⟩
        refine q1 _ _ (.int ((i : Int) + 1)) ?_ (same_new hT) (.int _)
        unfold markR
        rw [eb]
        show Option.map PyData.int (if word es b = "mark" then some ((i : Int) + 1) else none) = _
        rw [if_pos hw]
        rfl
      · rw [decide_eq_false hw]
        refine iteF (q0 _ ?_ (same_new hT))
        unfold markR
        rw [eb]
        show Option.map PyData.int (if word es b = "mark" then some ((i : Int) + 1) else none) = _
        rw [if_neg hw]
        rfl
    · intro H1 acc s1 hacc ha
      have e : (List.range (fs.map V.int).length).filterMap (fun i => (markR es fs i).map PyData.int) = (marks es fs).map PyData.int := by
        unfold marks
        rw [hlen, List.map_filterMap]
      rw [e] at ha
      obtain ⟨ns, rfl, e2, _⟩ := all_ints (P := fun _ => True) ha fun z hz => by
        obtain ⟨b, _, rfl⟩ := List.mem_map.mp hz
        exact ⟨b, rfl, trivial⟩
      have e3 : marks es fs = ns := by
        have inj : ∀ (xs ys : List Int), xs.map PyData.int = ys.map PyData.int → xs = ys := by
          intro xs
          induction xs with
          | nil => intro ys h; cases ys with
            | nil => rfl
            | cons b ys => simp at h
          | cons a xs ih => intro ys h; cases ys with
            | nil => simp at h
            | cons b ys =>
              simp only [List.map_cons, List.cons.injEq, PyData.int.injEq] at h
              rw [h.1, ih ys h.2]
        exact inj _ _ e2
      have hns : ns.length ≤ 1000 := by
        have h1 : (marks es fs).length ≤ fs.length := by
          unfold marks
          exact Nat.le_trans (List.length_filterMap_le _ _) (by rw [List.length_range]; exact Nat.le_refl _)
        rw [← e3]
        omega
      refine ⟨by show 1 ≤ sizeLine; decide, fun p hp => ⟨_, rfl, p, L, _, _, rfl, rfl, upd_same, (same_new hp) _ _ hacc, ?_, fun q hq => ?_⟩⟩
      · rw [List.length_map]
        exact Nat.le_trans (show 1 + ns.length ≤ 2000 by omega) (by decide)
      · refine ⟨q, 0 :: ns, rfl, .inl (.inl upd_same), by simp, fun m hm hle => ?_⟩
        rw [← e3] at hm hle
        rw [marks_max hm hle]
        exact k _ ((s1.trans (same_new hp)).trans (same_new hq))
end
end K09

namespace K09
open PySem L2 Cm
theorem dp_encD {K : PySem.W.Frag} {H : Hp} {v : V} {p : Dd} (h : Dp K H v (encD p)) : ∃ t, v = .ref t ∧ SqT K H t [.str p.1, .int p.2.1, .int p.2.2] := by
  unfold encD at h
  cases h with
  | tup hs ha =>
    cases ha with
    | cons h1 h2 =>
      cases h1
      cases h2 with
      | cons h3 h4 =>
        cases h3
        cases h4 with
        | cons h5 h6 =>
          cases h5
          cases h6
          exact ⟨_, rfl, hs⟩
def spTurned (K : PySem.W.Frag) : Sp := fun vs H Q _ => ∃ (l : Addr) (xs : List V) (ds : List Dd), vs = [.ref l] ∧ H l = some (.lst xs) ∧ DpAll K H xs (ds.map encD) ∧ ds.length ≤ 4000 ∧
  ∀ (m : Addr) (ys : List V) (H' : Hp), Same H H' → H m = Option.none → H' m = some (.lst ys) → DpAll K H' ys ((turnM ds).map encD) → Q (.ref m) H'
def spDeedsL (K : PySem.W.Frag) : Sp := fun vs H Q _ => ∃ (a b d : Addr) (f1 f2 : List Int) (es : Things) (kvs : List (Key × V)), vs = [.ref a, .ref b, .ref d] ∧ Fr K H a d f1 es kvs ∧ Fr K H b d f2 es kvs ∧
  ∀ (t m : Addr) (xs : List V) (H' : Hp), Same H H' → SqT K H' t [.int (common (winds es f1) (winds es f2) : Nat), .ref m] → H m = Option.none → H' m = some (.lst xs) → DpAll K H' xs ((deedsM (winds es f1) (winds es f2)).map encD) → Q (.ref t) H'
section
variable {P : Program} {w : World} {K : PySem.W.Frag} {mg : Str → Option Value} {base : Heap}
abbrev s_l_turned : Stmt := top 16
abbrev N_l_turned : List Str := ["_law_deeds_here", "_law_word", "_law_at", "_law_birth"]
theorem sc_l_turned : FnScope N_l_turned ["_law_deeds_here"] (defScope s_l_turned) := ⟨rfl, rfl, rfl, by decide +kernel, rfl, by decide +kernel, by decide +kernel⟩
theorem ok_turned (D : At K mg "_law_turned" s_l_turned ["_law_deeds_here"]) : Cl P w K mg base 1 "_law_turned" (spTurned K) := by
  refine cl_of D sc_l_turned (fun vs H Q E h => ?_) fun f cdv A outer s H vs Q E hr h => ?_
  · obtain ⟨l, xs, ds, rfl, _⟩ := h
    rfl
  · obtain ⟨l, xs, ds, rfl, hl, hx, hn, k⟩ := h
    refine ⟨_, (pss_one (ps_ret (pe_lc (own := [("_law_word", 1), ("_law_at", 2), ("_law_birth", 3)]) (g := gTup K 3 (gCons (gName 1) (gCons (gName 2) (gCons (gName 3) gNil)))) rfl sc_l_turned.nd (pi_list (pe_revL (pv 0))) (blkOk_by (N := N_l_turned) (sc := defScope s_l_turned) (by decide +kernel))
      (fun _ _ _ _ _ => (pg_tup rfl (pgs_cons (pg_name (i := 1) sc_l_turned.nd rfl (Or.inl rfl)) (pgs_cons (pg_name (i := 2) sc_l_turned.nd rfl (Or.inl rfl)) (pgs_cons (pg_name (i := 3) sc_l_turned.nd rfl (Or.inl rfl)) pgs_nil)))))
      (fun _ _ _ _ _ => pts_nil)
      (fun _ _ _ _ _ => (pe_tup (pa_cons (pe_ifExp (pt_cmpR op_eq (pv 1) pe_str (nomark _)) pe_str pe_str) (pa_cons (pv 2) (pa_cons (pv 3) pa_nil)))))))), ?_⟩
    have hr1 : DpAll K H xs.reverse (ds.reverse.map encD) := by
      rw [List.map_reverse]
      exact DpAll.rev hx
    have lx : xs.reverse.length = ds.reverse.length := by have := DpAll.len hr1; rwa [List.length_map] at this
    refine ⟨_, rfl, l, xs, rfl, .inl (.inl hl), fun p hp => ⟨p, rfl, ⟨_, .inl (.inl upd_same)⟩, fun L hL => ?_⟩⟩
    have s0 := same_new (o := .lst xs.reverse) hp
    refine lc_data (K := K) (walk_list (xs := xs.reverse)) (fun m => (ds.reverse[m]?).map fun q => encD (if q.1 = ("leave" : Str) then ("enter" : Str) else "leave", q.2)) hL (by rw [lx, List.length_reverse]; omega) (fun H' s1 => s1.seq (.inl (.inl upd_same))) (fun m _ z e => ?_) ?_ ?_
    · obtain ⟨q, _, rfl⟩ := Option.map_eq_some_iff.mp e
      rfl
    · rintro m v H0 H2 hm s1 ⟨rfl, e2⟩ Q1 Q0 q1 q0
      obtain ⟨d1, g1, g2⟩ := DpAll.atV hr1 e2
      obtain ⟨q, eq, rfl⟩ := map_at g1
      obtain ⟨t1, rfl, h1⟩ := dp_encD (dp_same (s0.trans s1) _ _ g2)
      refine ⟨t1, _, rfl, h1, rfl, _, _, rfl, _, _, rfl, _, _, rfl, rfl, rfl, ?_⟩
      refine iteT (B := Q0 H2) ⟨_, rfl, rfl, _, rfl, ?_⟩
      rw [decS]
      by_cases hw : q.1 = ("leave" : Str)
      · rw [decide_eq_true hw]
        refine iteT ⟨_, rfl, _, rfl, by show 3 ≤ sizeLine; decide, fun u hu => ?_⟩
        refine q1 _ _ (encD ("enter", q.2)) ?_ (same_new hu) (.tup (.inl (.inl upd_same)) (.cons (.str _) (.cons (.int _) (.cons (.int _) .nil))))
        rw [eq]
        show some (encD (if q.1 = ("leave" : Str) then ("enter" : Str) else "leave", q.2)) = _
        rw [if_pos hw]
      · rw [decide_eq_false hw]
        refine iteF ⟨_, rfl, _, rfl, by show 3 ≤ sizeLine; decide, fun u hu => ?_⟩
        refine q1 _ _ (encD ("leave", q.2)) ?_ (same_new hu) (.tup (.inl (.inl upd_same)) (.cons (.str _) (.cons (.int _) (.cons (.int _) .nil))))
        rw [eq]
        show some (encD (if q.1 = ("leave" : Str) then ("enter" : Str) else "leave", q.2)) = _
        rw [if_neg hw]
    · intro H2 acc s1 hacc ha
      rw [lx, range_at] at ha
      refine k L acc H2 (s0.trans s1) ((same_new (o := .lst xs.reverse) hp).free hL) hacc ?_
      unfold turnM
      rw [List.map_map]
      exact ha
abbrev s_l_deeds : Stmt := top 15
abbrev N_l_deeds : List Str := ["_law_present", "_law_goal", "_law_things_here", "_law_here", "_law_there", "_law_many", "_law_deeds_here", "_law_at", "_law_birth"]
theorem sc_l_deeds : FnScope N_l_deeds ["_law_present", "_law_goal", "_law_things_here"] (defScope s_l_deeds) := ⟨rfl, rfl, rfl, by decide +kernel, rfl, by decide +kernel, by decide +kernel⟩
theorem ok_ldeeds (T : Txt mg) (c_l_winds_of : Cl P w K mg base 1 "_law_winds_of" (spWindsL K)) (D : At K mg "_law_deeds" s_l_deeds ["_law_present", "_law_goal", "_law_things_here"]) : Cl P w K mg base 2 "_law_deeds" (spDeedsL K) := by
  refine cl_of D sc_l_deeds (fun vs H Q E h => ?_) fun f cdv A outer s H vs Q E hr h => ?_
  · obtain ⟨a, b, d, f1, f2, es, kvs, rfl, _⟩ := h
    rfl
  · obtain ⟨a, b, d, f1, f2, es, kvs, rfl, x1, x2, k⟩ := h
    refine ⟨_, (pss_cons (ps_set (i := 3) sc_l_deeds.nd rfl (Or.inl rfl) (pe_c c_l_winds_of hr (by decide) (by rfl) (pa_cons (pv 0) (pa_cons (pv 2) pa_nil))))
      (pss_cons (ps_set (i := 4) sc_l_deeds.nd rfl (Or.inl rfl) (pe_c c_l_winds_of hr (by decide) (by rfl) (pa_cons (pv 1) (pa_cons (pv 2) pa_nil))))
      (pss_cons (ps_set (i := 5) sc_l_deeds.nd rfl (Or.inl rfl) pe_int)
      (pss_mid (ps_while PassesOwn.never (PW.pt (pw_and (pt_cmpR op_lt (pv 5) (pe_callB (call_min2 rfl) (by rfl) T.min (by decide +kernel) (pa_cons (pe_callB call_len_seq (by rfl) T.len (by decide +kernel) (pa_cons (pv 3) pa_nil)) (pa_cons (pe_callB call_len_seq (by rfl) T.len (by decide +kernel) (pa_cons (pv 4) pa_nil)) pa_nil))) (nomark _)) (pw_and1 (pt_cmpR op_eq (pe_ix ix_tup (pe_ix ix_list (pv 3) (pv 5) (fun _ _ => rfl)) pe_int (fun _ _ => rfl)) (pe_ix ix_tup (pe_ix ix_list (pv 4) (pv 5) (fun _ _ => rfl)) pe_int (fun _ _ => rfl)) (nomark _)))))
        (pss_one (ps_set (i := 5) sc_l_deeds.nd rfl (Or.inl rfl) (pe_op op_add (pv 5) pe_int))))
      (pss_cons (ps_setLc (i := 6) (own := [("_law_at", 7), ("_law_birth", 8)]) (g := gTup K 2 (gCons (gName 7) (gCons (gName 8) gNil))) rfl sc_l_deeds.nd rfl rfl (sw_true rfl rfl rfl (by decide +kernel)) (pi_list (pe_revL (pe_slice sl_list (pv 3) (po_some (pv 5)) po_none))) (blkOk_by (N := N_l_deeds) (sc := defScope s_l_deeds) (by decide +kernel))
      (fun _ _ _ _ _ => (pg_tup rfl (pgs_cons (pg_name (i := 7) sc_l_deeds.nd rfl (Or.inl rfl)) (pgs_cons (pg_name (i := 8) sc_l_deeds.nd rfl (Or.inl rfl)) pgs_nil))))
      (fun _ _ _ _ _ => pts_nil)
      (fun _ _ _ _ _ => (pe_tup (pa_cons pe_str (pa_cons (pv 7) (pa_cons (pv 8) pa_nil))))))
      (pss_one (ps_ret (pe_tup (pa_cons (pv 5) (pa_cons (pe_op op_cat (pv 6) (pe_lc (own := [("_law_at", 7), ("_law_birth", 8)]) (g := gTup K 2 (gCons (gName 7) (gCons (gName 8) gNil))) rfl sc_l_deeds.nd (pi_list (pe_slice sl_list (pv 4) (po_some (pv 5)) po_none)) (blkOk_by (N := N_l_deeds) (sc := defScope s_l_deeds) (by decide +kernel))
      (fun _ _ _ _ _ => (pg_tup rfl (pgs_cons (pg_name (i := 7) sc_l_deeds.nd rfl (Or.inl rfl)) (pgs_cons (pg_name (i := 8) sc_l_deeds.nd rfl (Or.inl rfl)) pgs_nil))))
      (fun _ _ _ _ _ => pts_nil)
      (fun _ _ _ _ _ => (pe_tup (pa_cons pe_str (pa_cons (pv 7) (pa_cons (pv 8) pa_nil))))))) pa_nil)))))))))), ?_⟩
    refine ⟨_, rfl, _, rfl, a, d, f1, es, kvs, rfl, x1, fun t1 xs1 H1 s1 hf1 ht1 hd1 => ?_⟩
    refine ⟨_, rfl, _, rfl, b, d, f2, es, kvs, rfl, x2.same s1, fun t2 xs2 H2 s2 hf2 ht2 hd2 => ?_⟩
    have w1 : (winds es f1).length ≤ 1000 := Nat.le_trans (winds_len _ _) x1.len
    have w2 : (winds es f2).length ≤ 1000 := Nat.le_trans (winds_len _ _) x2.len
    have l1 : xs1.length = (winds es f1).length := by have := DpAll.len hd1; rwa [List.length_map] at this
    have l2 : xs2.length = (winds es f2).length := by have := DpAll.len hd2; rwa [List.length_map] at this
    have hc := common_le (winds es f1) (winds es f2)
    have ht1' := s2 _ _ ht1
    have hd1' := dps_same s2 _ _ hd1
    refine ⟨fun σ' H' => σ' = [some (.ref a), some (.ref b), some (.ref d), some (.ref t1), some (.ref t2), some (.int (common (winds es f1) (winds es f2) : Nat)), Option.none, Option.none, Option.none] ∧ H2 = H', ?_, ?_⟩
    · refine ⟨fun m σ H' => ∃ i : Nat, m = 2000 - i ∧ i ≤ 1000 ∧ σ = [some (.ref a), some (.ref b), some (.ref d), some (.ref t1), some (.ref t2), some (.int (i : Nat)), Option.none, Option.none, Option.none] ∧ H2 = H' ∧
        (∀ j < i, ∃ p q, (winds es f1)[j]? = some p ∧ (winds es f2)[j]? = some q ∧ p.2 = q.2), ⟨_, 0, rfl, by omega, rfl, rfl, fun j hj => absurd hj (Nat.not_lt_zero _)⟩, ?_⟩
      rintro m σ H' ⟨i, rfl, hi, rfl, rfl, hpre⟩
      refine ⟨_, rfl, _, rfl, t1, xs1, rfl, .inl (.inl (.inl ht1')), _, rfl, t2, xs2, rfl, .inl (.inl (.inl ht2)), _, _, rfl, _, _, rfl, rfl, _, rfl, ?_⟩
      by_cases hlt : i < xs1.length ∧ i < xs2.length
      · have e1 : xs1[i]? = some xs1[i] := List.getElem?_eq_getElem hlt.1
        have e2 : xs2[i]? = some xs2[i] := List.getElem?_eq_getElem hlt.2
        obtain ⟨_, g1, g2⟩ := DpAll.atV hd1' e1
        obtain ⟨p, ep, rfl⟩ := map_at g1
        obtain ⟨_, g3, g4⟩ := DpAll.atV hd2 e2
        obtain ⟨q, eq, rfl⟩ := map_at g3
        obtain ⟨u1, e3, h1⟩ := dp_enc g2
        obtain ⟨u2, e4, h2⟩ := dp_enc g4
        rw [e3] at e1
        rw [e4] at e2
        rw [decide_eq_true (show (i : Int) < _ by split <;> omega)]
        refine iteT ⟨_, rfl, _, rfl, t1, _, _, _, rfl, rfl, .inl (.inl ht1'), atI_nat e1, u1, _, _, _, rfl, rfl, h1, rfl, _, rfl, _, rfl, t2, _, _, _, rfl, rfl, .inl (.inl ht2), atI_nat e2, u2, _, _, _, rfl, rfl, h2, rfl, rfl, _, rfl, ?_⟩
        by_cases hpq : p.2 = q.2
        · rw [show decide (V.int p.2 = V.int q.2) = true by rw [hpq]; simp]
          refine iteT ⟨fun σ' H' => σ' = [some (.ref a), some (.ref b), some (.ref d), some (.ref t1), some (.ref t2), some (.int ((i : Int) + 1)), Option.none, Option.none, Option.none] ∧ H2 = H', ?_, ?_⟩
          · rintro σ' H' ⟨rfl, rfl⟩
            refine ⟨2000 - (i + 1), by omega, i + 1, rfl, by omega, rfl, rfl, fun j hj => ?_⟩
            by_cases hj' : j < i
            · exact hpre j hj'
            · have : j = i := by omega
              subst this
              exact ⟨p, q, ep, eq, hpq⟩
          · exact ⟨_, rfl, _, _, rfl, rfl, rfl, rfl⟩
        · rw [show decide (V.int p.2 = V.int q.2) = false from decide_eq_false fun z => hpq (V.int.inj z)]
          have e := common_is _ _ i hpre fun x y z1 z2 => by
            rw [ep] at z1
            rw [eq] at z2
            cases z1
            cases z2
            exact hpq
          refine iteF ⟨?_, rfl⟩
          rw [e]
      · rw [decide_eq_false (show ¬ (i : Int) < _ by split <;> omega)]
        have e := common_is (winds es f1) (winds es f2) i hpre fun x y z1 z2 => by
          have h1 := (List.getElem?_eq_some_iff.mp z1).1
          have h2 := (List.getElem?_eq_some_iff.mp z2).1
          omega
        refine iteF (iteF ⟨?_, rfl⟩)
        rw [e]
    · rintro σ' H' ⟨rfl, rfl⟩
      refine ⟨_, rfl, _, rfl, _, rfl, t1, xs1, rfl, .inl (.inl ht1'), fun t3 ht3 => ?_⟩
      refine ⟨t3, _, rfl, .inl (.inl upd_same), fun t4 hp4 => ⟨t4, rfl, ⟨_, .inl (.inl upd_same)⟩, fun D1 hD1 => ?_⟩⟩
      have s3 := same_new (o := .lst (cutV xs1 (some ((common (winds es f1) (winds es f2) : Nat) : Int)) Option.none)) ht3
      have s4 := same_new (o := .lst (cutV xs1 (some ((common (winds es f1) (winds es f2) : Nat) : Int)) Option.none).reverse) hp4
      have hr1 : DpAll K (upd (upd H2 t3 (.lst (cutV xs1 (some ((common (winds es f1) (winds es f2) : Nat) : Int)) Option.none))) t4 (.lst (cutV xs1 (some ((common (winds es f1) (winds es f2) : Nat) : Int)) Option.none).reverse))
          (cutV xs1 (some ((common (winds es f1) (winds es f2) : Nat) : Int)) Option.none).reverse (((winds es f1).drop (common (winds es f1) (winds es f2))).reverse.map encP) := by
        have h0 := DpAll.rev (DpAll.drop (common (winds es f1) (winds es f2)) (dps_same (s3.trans s4) _ _ hd1'))
        rw [← cut_from (xs := xs1) (by omega)] at h0
        rw [List.map_reverse, List.map_drop]
        exact h0
      refine lc_pairs (wd := "leave") (walk_list (K := K)) hr1 (by rw [List.length_reverse, List.length_drop]; omega) hD1 (fun H s => s.seq (.inl (.inl upd_same))) (fun _ => rfl) (fun _ => rfl) (fun _ => rfl) fun H5 acc1 s5 hacc1 hda1 => ?_
      have s25 := (s3.trans s4).trans s5
      refine ⟨_, rfl, _, rfl, _, rfl, _, rfl, _, rfl, t2, xs2, rfl, .inl (.inl (s25 _ _ ht2)), fun t6 ht6 => ?_⟩
      refine ⟨t6, rfl, ⟨_, .inl (.inl upd_same)⟩, fun D2 hD2 => ?_⟩
      have s6 := same_new (o := .lst (cutV xs2 (some ((common (winds es f1) (winds es f2) : Nat) : Int)) Option.none)) ht6
      have hr2 : DpAll K (upd H5 t6 (.lst (cutV xs2 (some ((common (winds es f1) (winds es f2) : Nat) : Int)) Option.none))) (cutV xs2 (some ((common (winds es f1) (winds es f2) : Nat) : Int)) Option.none) (((winds es f2).drop (common (winds es f1) (winds es f2))).map encP) := by
        have h0 := DpAll.drop (common (winds es f1) (winds es f2)) (dps_same (s25.trans s6) _ _ hd2)
        rw [← cut_from (xs := xs2) (by omega)] at h0
        rw [List.map_drop]
        exact h0
      refine lc_pairs (wd := "enter") (walk_list (K := K)) hr2 (by rw [List.length_drop]; omega) hD2 (fun H s => s.seq (.inl (.inl upd_same))) (fun _ => rfl) (fun _ => rfl) (fun _ => rfl) fun H7 acc2 s7 hacc2 hda2 => ?_
      have hl1 := DpAll.len hda1
      have hl2 := DpAll.len hda2
      simp only [List.length_map, List.length_reverse, List.length_drop] at hl1 hl2
      refine ⟨D1, D2, acc1, acc2, rfl, rfl, (s6.trans s7) _ _ hacc1, hacc2, Nat.le_trans (show acc1.length + acc2.length ≤ 2000 by omega) (by decide), fun p hp => ?_⟩
      have sH7 : Same H H7 := ((s1.trans s2).trans s25).trans (s6.trans s7)
      refine ⟨by show 2 ≤ sizeLine; decide, fun t ht => ?_⟩
      have sp1 := same_new (o := .lst (acc1 ++ acc2)) hp
      refine k t p (acc1 ++ acc2) _ (sH7.trans (sp1.trans (same_new ht))) (.inl (.inl upd_same)) (sH7.free hp) ((same_new ht) _ _ upd_same) ?_
      unfold deedsM
      rw [List.map_append]
      exact DpAll.app (dps_same ((s6.trans s7).trans (sp1.trans (same_new ht))) _ _ hda1) (dps_same (sp1.trans (same_new ht)) _ _ hda2)
end
end K09

namespace K09
open PySem L2 Cm
theorem cat_any {K : PySem.W.Frag} {a b : Addr} {xs ys : List V} {H : Hp} {Q : VK} (ha : SqT K H a xs) (hb : SqT K H b ys) (hl : xs.length + ys.length ≤ sizeLine)
    (h : ∀ t H', Same H H' → SqT K H' t (xs ++ ys) → Q (.ref t) H') : rCatA K (.ref a) (.ref b) H Q := by
  refine ⟨a, b, xs, ys, rfl, rfl, ha, hb, hl, fun e => ?_, fun _ e => ?_, fun _ _ p hp => h p _ (same_new hp) (.inl (.inl upd_same))⟩
  · exact h b H (Same.refl H) (by rw [e]; exact hb)
  · exact h a H (Same.refl H) (by rw [e, List.append_nil]; exact ha)
def spNear (K : PySem.W.Frag) : Sp := fun vs H Q _ => ∃ (h c d a : Addr) (es : Things) (kvs : List (Key × V)) (n : Nat) (fs : List Int), vs = [.ref h, .ref d, .ref a] ∧ Hand H h c ∧ ThAt K H d es kvs ∧ es.map (·.1) = births n ∧ 1 ≤ n ∧ n ≤ 60 ∧
  SqT K H a (fs.map V.int) ∧ fs.length ≤ 60 ∧ (∀ b ∈ fs, b ∈ births n) ∧
  ∀ (t : Addr) (gs : List Int) (H' : Hp), Kh h H H' → Hand H' h c → SqT K H' t (gs.map V.int) → gs.length ≤ 300 → (∀ b ∈ gs, b ∈ births n) → Q (.ref t) H'
section
variable {P : Program} {w : World} {K : PySem.W.Frag} {mg : Str → Option Value} {base : Heap}
abbrev s_l_near : Stmt := top 14
abbrev N_l_near : List Str := ["_law_hand_here", "_law_things_here", "_law_frames", "_law_out", "_law_birth", "_law_each"]
theorem sc_l_near : FnScope N_l_near ["_law_hand_here", "_law_things_here", "_law_frames"] (defScope s_l_near) := ⟨rfl, rfl, rfl, by decide +kernel, rfl, by decide +kernel, by decide +kernel⟩
theorem ok_near (T : Txt mg) (c_l_draw : Cl P w K mg base 2 "_law_draw" spDraw) (c_l_row : Cl P w K mg base 4 "_law_row" (spRow K)) (D : At K mg "_law_near" s_l_near ["_law_hand_here", "_law_things_here", "_law_frames"]) :
    Cl P w K mg base 5 "_law_near" (spNear K) := by
  refine cl_of D sc_l_near (fun vs H Q E h => ?_) fun f cdv A outer s H vs Q E hr h => ?_
  · obtain ⟨h, c, d, a, es, kvs, n, fs, rfl, _⟩ := h
    rfl
  · obtain ⟨h, c, d, a, es, kvs, n, fs, rfl, hh, ht, hk, hn1, hn2, ha, hlen, hfs, k⟩ := h
    have hu := hu_of hr
    refine ⟨_, (pss_cons (ps_set (i := 3) sc_l_near.nd rfl (Or.inl rfl) (pe_lst pa_nil))
      (pss_cons (ps_for PassesOwn.never rfl (pi_tup (pe_slice sl_tupA (pv 2) po_none (po_some (pe_c c_l_draw hr (by decide) (by rfl) (pa_cons (pv 0) (pa_cons (pe_op op_add (pe_callB call_len_seq (by rfl) T.len (by decide +kernel) (pa_cons (pv 2) pa_nil)) pe_int) pa_nil)))))) (pg_name (i := 4) sc_l_near.nd rfl (Or.inl rfl))
        (pss_mid (ps_if (PW.pt (pw_or (pt_cmpR op_eq (pe_ix ix_tup (pe_dget hu (pv 1) (pv 4) (fun _ _ => rfl)) pe_int (fun _ _ => rfl)) pe_str (nomark _)) (pw_or1 (pt_cmpR op_gt (pe_c c_l_draw hr (by decide) (by rfl) (pa_cons (pv 0) (pa_cons pe_int pa_nil))) pe_int (nomark _)))))
          (pss_one (ps_expr (pe_bm PySem.F.plainAttrs_list PySem.F.slot_list_append PySem.F.type_list_append mt_append (pv 3) (pa_cons (pv 4) pa_nil))))
          pss_nil)
        (pss_one (ps_if (pt_cmpR op_eq (pe_c c_l_draw hr (by decide) (by rfl) (pa_cons (pv 0) (pa_cons pe_int pa_nil))) pe_int (nomark _))
          (pss_one (ps_set (i := 3) sc_l_near.nd rfl (Or.inl rfl) (pe_op op_cat (pv 3) (pe_lc (own := [("_law_each", 5)]) rfl sc_l_near.nd (pi_tup (pe_c c_l_row hr (by decide) (by rfl) (pa_cons (pv 0) (pa_cons (pv 1) (pa_cons pe_int pa_nil))))) (blkOk_by (N := N_l_near) (sc := defScope s_l_near) (by decide +kernel))
      (fun _ _ _ _ _ => (pg_name (i := 5) sc_l_near.nd rfl (Or.inl rfl)))
      (fun _ _ _ _ _ => (pts_one (pt_cmpR op_ne (pe_ix (kx_tup (K := K)) (pe_dget hu (pv 1) (pv 5) (fun _ _ => rfl)) pe_int (fun _ _ => rfl)) pe_str (nomark _))))
      (fun _ _ _ _ _ => (pv 5))))))
          pss_nil))))
      (pss_one (ps_ret (pe_op op_catA (pe_tupleOf (by rfl) T.tuple (pv 3)) (pe_c c_l_row hr (by decide) (by rfl) (pa_cons (pv 0) (pa_cons (pv 1) (pa_cons pe_int pa_nil))))))))), ?_⟩
    refine ⟨Nat.zero_le _, fun o0 ho0 => ?_⟩
    have s0 := same_new (o := .lst []) ho0
    refine ⟨_, rfl, _, rfl, _, rfl, a, _, rfl, .inr (sqt_same s0 ha), _, _, rfl, rfl, h, c, _, rfl, hh.same s0, by omega, ?_, fun m H2 m0 m1 kh2 hh2 => ?_⟩
    · rw [List.length_map]
      exact Int.lt_of_le_of_lt (show (fs.length : Int) + 1 ≤ 61 by omega) (by decide)
    obtain ⟨m, rfl⟩ : ∃ j : Nat, m = (j : Int) := ⟨m.toNat, by omega⟩
    rw [List.length_map] at m1
    refine ⟨_, rfl, ?_⟩
    refine sl_to (kh2.tup (sqt_same s0 ha)) (by rw [List.length_map]; omega) fun t3 H3 s3 ht3 => ?_
    have th0 := hh.there ho0
    have dnh : ¬ d = h := hh.ne (fun xs e => by rw [ht.at_] at e; cases e)
    have dno : ¬ d = o0 := ne_of_none ht.at_ ho0
    have k03 : Kh h H H3 := ((hh.kh s0).trans kh2).trans (hh2.kh s3)
    refine ⟨t3, rfl, ⟨_, ht3⟩, ?_⟩
    have hl3 : ((fs.map V.int).take m).length = m := by rw [List.length_take, List.length_map]; omega
    refine for_it (walk_tup (xs := (fs.map V.int).take m)) (fun i σ H' => ∃ (o : Addr) (gs : List Int) (v4 : Option V), σ = [some (.ref h), some (.ref d), some (.ref a), some (.ref o), v4, Option.none] ∧ Kh h H H' ∧ Hand H' h c ∧ H o = Option.none ∧ H' o = some (.lst (gs.map V.int)) ∧
        SqT K H' t3 ((fs.map V.int).take m) ∧ gs.length ≤ 3 * i ∧ ∀ b ∈ gs, b ∈ births n)
      ⟨o0, [], Option.none, rfl, k03, hh2.same s3, ho0, s3 _ _ (kh2.st _ _ th0.1 upd_same), ht3, Nat.zero_le _, by intro b hb; cases hb⟩ (fun i σ H' _ z => ?_) ?_ ?_
    · obtain ⟨_, _, _, _, _, _, _, _, q, _⟩ := z
      exact q
    · rintro i x σ H0 H4 hi ⟨o, gs, v4, rfl, k4, hh4, ho, hgs, ht4, hlg, hg⟩ ⟨rfl, e2⟩
      have ex : (fs.map V.int)[i]? = some x := by
        rw [List.getElem?_take_of_lt (by omega)] at e2
        exact e2
      obtain ⟨b, eb, rfl⟩ := map_at ex
      have hb : b ∈ births n := hfs b (List.mem_of_getElem? eb)
      have tho := hh.there ho
      -- the state behind the first if
      refine ⟨fun σ' H' => ∃ (gs : List Int), σ' = [some (.ref h), some (.ref d), some (.ref a), some (.ref o), some (.int b), Option.none] ∧ Kh h H H' ∧ Hand H' h c ∧ H' o = some (.lst (gs.map V.int)) ∧
        SqT K H' t3 ((fs.map V.int).take m) ∧ gs.length ≤ 3 * i + 1 ∧ ∀ b ∈ gs, b ∈ births n, ?_, ?_⟩
      · have put : ∀ H' : Hp, Kh h H H' → Hand H' h c → H' o = some (.lst (gs.map V.int)) → SqT K H' t3 ((fs.map V.int).take m) →
            ∃ l xs y, V.ref o = V.ref l ∧ [V.int b] = [y] ∧ H' l = some (.lst xs) ∧ xs.length < sizeLine ∧
              ∃ (gs : List Int), [some (V.ref h), some (.ref d), some (.ref a), some (.ref o), some (.int b), Option.none] = [some (V.ref h), some (.ref d), some (.ref a), some (.ref o), some (.int b), Option.none] ∧ Kh h H (upd H' l (.lst (xs ++ [y]))) ∧
                Hand (upd H' l (.lst (xs ++ [y]))) h c ∧ (upd H' l (.lst (xs ++ [y]))) o = some (.lst (gs.map V.int)) ∧ SqT K (upd H' l (.lst (xs ++ [y]))) t3 ((fs.map V.int).take m) ∧ gs.length ≤ 3 * i + 1 ∧ ∀ b ∈ gs, b ∈ births n := by
          intro H' k' hh' ho' ht'
          refine ⟨o, _, _, rfl, rfl, ho', ?_, gs ++ [b], rfl, k'.mut ho, hh'.puts tho.1 tho.2, ?_, sqt_put ho' ht', by rw [List.length_append]; exact Nat.succ_le_succ hlg, fun z hz => ?_⟩
          · rw [List.length_map]
            exact Nat.lt_of_le_of_lt hlg (Nat.lt_of_lt_of_le (show 3 * i < 1000 by omega) (by decide))
          · rw [upd_same, List.map_append]
            rfl
          · rcases List.mem_append.mp hz with q | q
            · exact hg z q
            · cases List.mem_singleton.mp q
              exact hb
        obtain ⟨p, its, g1, g2, g3, _⟩ := (ht.kp k4 dnh).get (by rw [hk]; exact hb)
        refine ⟨_, rfl, _, rfl, d, _, rfl, g1, p, its, _, _, rfl, rfl, g2, g3, rfl, _, rfl, ?_⟩
        refine ite2 (fun _ => ?_) (fun _ => ?_)
        · exact iteT ⟨_, rfl, .inl ⟨rfl, _, .inl (.inl hgs)⟩, _, rfl, put _ k4 hh4 hgs ht4⟩
        · refine ⟨_, rfl, h, c, _, rfl, hh4, by decide, by decide, fun q H5 q0 q1 k5 hh5 => ?_⟩
          have hgs5 := k5.st _ _ tho.1 hgs
          refine ⟨_, _, rfl, rfl, _, rfl, ?_⟩
          refine ite2 (fun _ => ?_) (fun _ => ?_)
          · exact ⟨_, rfl, .inl ⟨rfl, _, .inl (.inl hgs5)⟩, _, rfl, put _ (k4.trans k5) hh5 hgs5 (k5.tup ht4)⟩
          · exact ⟨gs, rfl, k4.trans k5, hh5, hgs5, k5.tup ht4, by omega, hg⟩
      · rintro σ' H5 ⟨gs, rfl, k5, hh5, hgs, ht5, hlg, hg⟩
        refine ⟨_, rfl, h, c, _, rfl, hh5, by decide, by decide, fun q H6 q0 q1 k6 hh6 => ?_⟩
        have hgs6 := k6.st _ _ tho.1 hgs
        have k56 := k5.trans k6
        refine ⟨rfl, _, rfl, ?_⟩
        refine ite2 (fun _ => ?_) (fun _ => ?_)
        · refine ⟨_, rfl, _, rfl, _, rfl, h, c, d, _, es, kvs, n, rfl, hh6, ht.kp k56 dnh, hk, hn1, hn2, by decide, by decide, fun t fs2 H7 k7 hh7 ht7 hl2 hf2 => ?_⟩
          have hl2' : fs2.length ≤ 2 := by omega
          refine ⟨t, rfl, ⟨_, ht7⟩, fun D1 hD1 => ?_⟩
          have k57 := k56.trans k7
          have ht7d := ht.kp k57 dnh
          refine lc_data (K := K) (walk_tup (xs := fs2.map V.int)) (fun j => (fs2[j]?).bind fun b => if word es b = "wind" then Option.none else some (.int b)) hD1 (by rw [List.length_map]; omega) (fun H' s => sqt_same s ht7) (fun j _ z e => ?_) ?_ ?_
          · obtain ⟨y, _, e2⟩ := Option.bind_eq_some_iff.mp e
            split at e2
            · cases e2
            · cases e2
              rfl
          · rintro j v H8 H9 hj s8 ⟨rfl, e3⟩ Q1 Q0 q1 q0
            obtain ⟨y, ey, rfl⟩ := map_at e3
            obtain ⟨p, its, g1, g2, g3, _⟩ := (ht7d.same s8).get (by rw [hk]; exact hf2 y (List.mem_of_getElem? ey))
            refine ⟨rfl, ?_⟩
            refine ⟨_, rfl, _, rfl, d, _, rfl, g1, p, its, _, _, rfl, rfl, g2, g3, rfl, _, rfl, ?_⟩
            rw [decS]
            by_cases hw : word es y = "wind"
            · rw [decide_eq_true hw]
              refine iteF (q0 _ ?_ (Same.refl _))
              rw [ey]
              exact if_pos hw
            · rw [decide_eq_false hw]
              refine iteT ⟨_, rfl, q1 _ _ (.int y) ?_ (Same.refl _) (.int y)⟩
              rw [ey]
              exact if_neg hw
          · intro H8 acc s8 hacc hda
            obtain ⟨ys, rfl, e4, hys⟩ := all_ints (P := fun b => b ∈ births n) hda fun z hz => by
              obtain ⟨j, hj, e⟩ := List.mem_filterMap.mp hz
              obtain ⟨y, ey, e2⟩ := Option.bind_eq_some_iff.mp e
              split at e2
              · cases e2
              · cases e2
                exact ⟨y, rfl, hf2 y (List.mem_of_getElem? ey)⟩
            have hyl : ys.length ≤ 2 := by
              have e5 : ys.length = (ys.map PyData.int).length := (List.length_map ..).symm
              rw [e5, ← e4]
              refine Nat.le_trans (List.length_filterMap_le _ _) ?_
              rw [List.length_range, List.length_map]
              exact hl2'
            have hgs8 := s8 _ _ (k7.st _ _ tho.1 hgs6)
            have k58 := k57.trans (hh7.kh s8)
            refine ⟨o, D1, _, _, rfl, rfl, hgs8, hacc, ?_, fun p hp => ?_⟩
            · rw [List.length_map, List.length_map]
              exact Nat.le_trans (show gs.length + ys.length ≤ 1000 by omega) (by decide)
            · refine ⟨p, gs ++ ys, _, rfl, k58.trans ((hh7.same s8).kh (same_new hp)), (hh7.same s8).same (same_new hp), k58.free hp, ?_, ?_, ?_, fun z hz => ?_⟩
              · rw [upd_same, List.map_append]
              · exact sqt_same (same_new hp) (sqt_same s8 (k7.tup (k6.tup ht5)))
              · rw [List.length_append]
                omega
              · rcases List.mem_append.mp hz with q | q
                · exact hg z q
                · exact hys z q
        · exact ⟨o, gs, _, rfl, k56, hh6, ho, hgs6, k6.tup ht5, by omega, hg⟩
    · rintro σ H4 ⟨o, gs, v4, rfl, k4, hh4, ho, hgs, ht4, hlg, hg⟩
      rw [hl3] at hlg
      refine ⟨_, rfl, .inl ⟨o, _, rfl, .inl (.inl hgs), fun t1 ht1 => ?_⟩⟩
      have s5 := same_new (o := .tup (gs.map V.int)) ht1
      have k5 := k4.trans (hh4.kh s5)
      refine ⟨_, rfl, _, rfl, h, c, d, _, es, kvs, n, rfl, hh4.same s5, ht.kp k5 dnh, hk, hn1, hn2, by decide, by decide, fun t fs2 H7 k7 hh7 ht7 hl2 hf2 => ?_⟩
      refine cat_any (k7.tup (.inl (.inl upd_same))) ht7 ?_ fun t8 H8 s8 ht8 => ?_
      · rw [List.length_map, List.length_map]
        exact Nat.le_trans (show gs.length + fs2.length ≤ 1000 by omega) (by decide)
      · rw [← List.map_append] at ht8
        refine k t8 (gs ++ fs2) H8 ((k5.trans k7).trans (hh7.kh s8)) (hh7.same s8) ht8 ?_ fun z hz => ?_
        · rw [List.length_append]
          omega
        · rcases List.mem_append.mp hz with q | q
          · exact hg z q
          · exact hf2 z q
end
end K09

namespace K09
open PySem L2 Cm
def spLaw (K : PySem.W.Frag) : Sp := fun vs H Q _ => ∃ (a : Addr) (ns : List Int), vs = [.ref a] ∧ SqL K H a (ns.map V.int) ∧ ns.length ≤ 63 ∧ ∀ H', Q (.bl true) H'
theorem sm_wind {es : Things} {fs : List Int} (hf : ∀ b ∈ fs, b.natAbs < 10 ^ 12) (hl : fs.length ≤ 1000) : ∀ p ∈ winds es fs, p.1.natAbs < 10 ^ 12 ∧ p.2.natAbs < 10 ^ 12 := by
  intro p hp
  unfold winds at hp
  obtain ⟨i, hi, e⟩ := List.mem_filterMap.mp hp
  have hi' := List.mem_range.mp hi
  unfold windR at e
  rw [List.getElem?_eq_getElem hi'] at e
  have e' : (if word es fs[i] = "wind" then some ((i : Int), fs[i]) else none) = some p := e
  split at e'
  · cases e'
    exact ⟨by show ((i : Int)).natAbs < _; omega, hf _ (List.getElem_mem hi')⟩
  · cases e'
theorem sm_encP {p : Int × Int} (h : p.1.natAbs < 10 ^ 12 ∧ p.2.natAbs < 10 ^ 12) : Sm 1 132 (encP p) :=
  (Sm.tuple (D := 0) (W := 64) (m := 2) (ds := [.int p.1, .int p.2]) (fun d hd => by
    rcases List.mem_cons.mp hd with rfl | hd
    · exact sm_int h.1
    · cases List.mem_singleton.mp hd
      exact sm_int h.2) (Nat.le_refl _)).mono (Nat.le_refl _) (Nat.le_refl _)
theorem sm_encD {p : Dd} (h : p.2.1.natAbs < 10 ^ 12 ∧ p.2.2.natAbs < 10 ^ 12) (hw : p.1 = ("leave" : Str) ∨ p.1 = ("enter" : Str)) : Sm 1 198 (encD p) :=
  (Sm.tuple (D := 0) (W := 64) (m := 3) (ds := [.str p.1, .int p.2.1, .int p.2.2]) (fun d hd => by
    rcases List.mem_cons.mp hd with rfl | hd
    · rcases hw with q | q
      · rw [q]; exact ⟨by decide +kernel, by decide +kernel, by decide +kernel⟩
      · rw [q]; exact ⟨by decide +kernel, by decide +kernel, by decide +kernel⟩
    · rcases List.mem_cons.mp hd with rfl | hd
      · exact sm_int h.1
      · cases List.mem_singleton.mp hd
        exact sm_int h.2) (Nat.le_refl _)).mono (Nat.le_refl _) (Nat.le_refl _)
theorem sm_winds {es : Things} {fs : List Int} (hf : ∀ b ∈ fs, b.natAbs < 10 ^ 12) (hl : fs.length ≤ 1000) : Sm 2 134000 (.tuple ((winds es fs).map encP)) :=
  (Sm.tuple (D := 1) (W := 132) (m := 1000) (fun d hd => by
    obtain ⟨p, hp, rfl⟩ := List.mem_map.mp hd
    exact sm_encP (sm_wind hf hl p hp)) (by rw [List.length_map]; exact Nat.le_trans (winds_len _ _) hl)).mono (Nat.le_refl _) (by decide)
theorem deeds_len (l e : List (Int × Int)) : (deedsM l e).length ≤ l.length + e.length := by
  unfold deedsM
  rw [List.length_append, List.length_map, List.length_map, List.length_reverse, List.length_drop, List.length_drop]
  omega
theorem sm_deeds {es : Things} {f1 f2 : List Int} (h1 : ∀ b ∈ f1, b.natAbs < 10 ^ 12) (h2 : ∀ b ∈ f2, b.natAbs < 10 ^ 12) (l1 : f1.length ≤ 1000) (l2 : f2.length ≤ 1000) : Sm 2 400000 (.tuple ((deedsM (winds es f1) (winds es f2)).map encD)) :=
  (Sm.tuple (D := 1) (W := 198) (m := 2000) (fun d hd => by
    obtain ⟨p, hp, rfl⟩ := List.mem_map.mp hd
    unfold deedsM at hp
    rcases List.mem_append.mp hp with q | q
    · obtain ⟨y, hy, rfl⟩ := List.mem_map.mp q
      exact sm_encD (sm_wind h1 l1 y (List.mem_of_mem_drop (List.mem_reverse.mp hy))) (.inl rfl)
    · obtain ⟨y, hy, rfl⟩ := List.mem_map.mp q
      exact sm_encD (sm_wind h2 l2 y (List.mem_of_mem_drop hy)) (.inr rfl)) (by
    rw [List.length_map]
    have := deeds_len (winds es f1) (winds es f2)
    have := winds_len es f1
    have := winds_len es f2
    omega)).mono (Nat.le_refl _) (by decide)
theorem ne_same (x : V) : (!decide (x = x)) = false := by simp
theorem cut_le (es : Things) (fs : List Int) : cutAll es fs ≤ fs.length := cutM_le es fs _
section
variable {P : Program} {w : World} {K : PySem.W.Frag} {mg : Str → Option Value} {base : Heap}
abbrev s_law : Stmt := top 18
abbrev N_law : List Str := ["_law_script", "_law_hand_here", "_law_turn", "_law_things_here", "_law_kept", "_law_present", "_law_goals", "_law_goal", "_law_many", "_law_deeds_here", "_law_shared"]
theorem sc_law : FnScope N_law ["_law_script"] (defScope s_law) := ⟨rfl, rfl, rfl, by decide +kernel, rfl, by decide +kernel, by decide +kernel⟩
structure Cls9 (P : Program) (w : World) (K : PySem.W.Frag) (mg : Str → Option Value) (base : Heap) : Prop where
  hand : Cl P w K mg base 1 "_law_hand" (spHand K)
  draw : Cl P w K mg base 2 "_law_draw" spDraw
  pick : Cl P w K mg base 3 "_law_pick" (spPick K)
  things : Cl P w K mg base 4 "_law_things" (spThings K)
  row : Cl P w K mg base 4 "_law_row" (spRow K)
  near : Cl P w K mg base 5 "_law_near" (spNear K)
  deeds : Cl P w K mg base 2 "_law_deeds" (spDeedsL K)
  turned : Cl P w K mg base 1 "_law_turned" (spTurned K)
  lwinds : Cl P w K mg base 1 "_law_winds_of" (spWindsL K)
  mark_end : Cl P w K mg base 1 "_law_mark_end" (spNum K cutAll)
  p_deeds : Cl P w K mg base 2 "deeds_of_way" (spDeeds K)
  p_shared : Cl P w K mg base 2 "shared_winds" (spMany K)
  p_winds : Cl P w K mg base 1 "winds_of" (spWindsT K)
  p_cut : Cl P w K mg base 1 "mark_cut" (spNum K cutAll)
theorem ok_law {f : Addr} {fd : FuncData} (T : Txt mg) (C : Cls9 P w K mg base) (F : Fun K "law" "law" s_law f fd) : LawAt P w K mg base 7 f fd ["_law_script"] (spLaw K) := by
  have c_l_hand := C.hand
  have c_l_draw := C.draw
  have c_l_pick := C.pick
  have c_l_things := C.things
  have c_l_row := C.row
  have c_l_near := C.near
  have c_l_deeds := C.deeds
  have c_l_turned := C.turned
  have c_l_winds_of := C.lwinds
  have c_l_mark_end := C.mark_end
  have c_p_deeds_of_way := C.p_deeds
  have c_p_shared_winds := C.p_shared
  have c_p_winds_of := C.p_winds
  have c_p_mark_cut := C.p_cut
  refine lawAt_of F sc_law (fun vs H Q E h => ?_) fun cdv A outer s H vs Q E hg hr h => ?_
  · obtain ⟨a, ns, rfl, _⟩ := h
    rfl
  · obtain ⟨a, ns, rfl, hS, hlen, k⟩ := h
    have hgd : (A.deeper (PyProof.Rows.envOfC "law" (defScope s_law) s.heap.objs.size f cdv)).guards = some [] := hg
    refine ⟨_, (pss_cons (ps_set (i := 1) sc_law.nd rfl (Or.inl rfl) (pe_c c_l_hand hr (by decide) (by rfl) (pa_cons (pv 0) pa_nil)))
      (pss_cons (ps_for PassesOwn.never rfl (pi_range1 (by rfl) T.range (pa_cons pe_int pa_nil)) (pg_name (i := 2) sc_law.nd rfl (Or.inl rfl))
        (pss_cons (ps_set (i := 3) sc_law.nd rfl (Or.inl rfl) (pe_c c_l_things hr (by decide) (by rfl) (pa_cons (pv 1) (pa_cons (pe_op op_add pe_int (pe_c c_l_draw hr (by decide) (by rfl) (pa_cons (pv 1) (pa_cons pe_int pa_nil)))) pa_nil))))
        (pss_cons (ps_set (i := 4) sc_law.nd rfl (Or.inl rfl) (pe_callB (call_reprD hgd hr.units) (by rfl) T.repr (by decide +kernel) (pa_cons (pv 3) pa_nil)))
        (pss_cons (ps_set (i := 5) sc_law.nd rfl (Or.inl rfl) (pe_c c_l_row hr (by decide) (by rfl) (pa_cons (pv 1) (pa_cons (pv 3) (pa_cons (pe_c c_l_pick hr (by decide) (by rfl) (pa_cons (pv 1) (pa_cons (pe_lst (pa_cons pe_int (pa_cons pe_int (pa_cons pe_int pa_nil)))) pa_nil))) pa_nil)))))
        (pss_cons (ps_set (i := 6) sc_law.nd rfl (Or.inl rfl) (pe_lst (pa_cons (pe_c c_l_near hr (by decide) (by rfl) (pa_cons (pv 1) (pa_cons (pv 3) (pa_cons (pv 5) pa_nil)))) (pa_cons (pe_c c_l_near hr (by decide) (by rfl) (pa_cons (pv 1) (pa_cons (pv 3) (pa_cons (pv 5) pa_nil)))) (pa_cons (pe_c c_l_row hr (by decide) (by rfl) (pa_cons (pv 1) (pa_cons (pv 3) (pa_cons pe_int pa_nil)))) (pa_cons (pv 5) (pa_cons (pe_tup pa_nil) pa_nil)))))))
        (pss_cons (ps_for PassesOwn.never rfl (pi_list (pv 6)) (pg_name (i := 7) sc_law.nd rfl (Or.inl rfl))
          (pss_cons (ps_asg (pe_c c_l_deeds hr (by decide) (by rfl) (pa_cons (pv 5) (pa_cons (pv 7) (pa_cons (pv 3) pa_nil)))) (pg_tup (by rfl) (pgs_cons (pg_name (i := 8) sc_law.nd rfl (Or.inl rfl)) (pgs_cons (pg_name (i := 9) sc_law.nd rfl (Or.inl rfl)) pgs_nil))))
          (pss_cons (ps_if (pt_cmpR op_ne (pe_callB (call_reprD hgd hr.units) (by rfl) T.repr (by decide +kernel) (pa_cons (pe_c c_p_deeds_of_way hr (by decide) (by rfl) (pa_cons (pv 5) (pa_cons (pv 7) (pa_cons (pv 3) pa_nil)))) pa_nil)) (pe_callB (call_reprD hgd hr.units) (by rfl) T.repr (by decide +kernel) (pa_cons (pe_tupleOf (by rfl) T.tuple (pv 9)) pa_nil)) (nomark _))
            (pss_one (ps_ret pe_bl))
            pss_nil)
          (pss_cons (ps_if (pt_cmpR op_ne (pe_callB (call_reprD hgd hr.units) (by rfl) T.repr (by decide +kernel) (pa_cons (pe_c c_p_deeds_of_way hr (by decide) (by rfl) (pa_cons (pv 7) (pa_cons (pv 5) (pa_cons (pv 3) pa_nil)))) pa_nil)) (pe_callB (call_reprD hgd hr.units) (by rfl) T.repr (by decide +kernel) (pa_cons (pe_tupleOf (by rfl) T.tuple (pe_c c_l_turned hr (by decide) (by rfl) (pa_cons (pv 9) pa_nil))) pa_nil)) (nomark _))
            (pss_one (ps_ret pe_bl))
            pss_nil)
          (pss_cons (ps_set (i := 10) sc_law.nd rfl (Or.inl rfl) (pe_c c_p_shared_winds hr (by decide) (by rfl) (pa_cons (pv 5) (pa_cons (pv 7) (pa_cons (pv 3) pa_nil)))))
          (pss_cons (ps_if (PW.pt (pw_or (pt_cmpR op_ne (pe_callB (call_reprD hgd hr.units) (by rfl) T.repr (by decide +kernel) (pa_cons (pv 10) pa_nil)) (pe_callB (call_reprD hgd hr.units) (by rfl) T.repr (by decide +kernel) (pa_cons (pv 8) pa_nil)) (nomark _)) (pw_or1 (pt_cmpR op_ne (pe_c c_p_shared_winds hr (by decide) (by rfl) (pa_cons (pv 7) (pa_cons (pv 5) (pa_cons (pv 3) pa_nil)))) (pv 8) (nomark _)))))
            (pss_one (ps_ret pe_bl))
            pss_nil)
          (pss_cons (ps_if (pt_cmpR op_ne (pe_callB (call_reprD hgd hr.units) (by rfl) T.repr (by decide +kernel) (pa_cons (pe_c c_p_winds_of hr (by decide) (by rfl) (pa_cons (pv 7) (pa_cons (pv 3) pa_nil))) pa_nil)) (pe_callB (call_reprD hgd hr.units) (by rfl) T.repr (by decide +kernel) (pa_cons (pe_tupleOf (by rfl) T.tuple (pe_c c_l_winds_of hr (by decide) (by rfl) (pa_cons (pv 7) (pa_cons (pv 3) pa_nil)))) pa_nil)) (nomark _))
            (pss_one (ps_ret pe_bl))
            pss_nil)
          (pss_one (ps_if (pt_cmpR op_ne (pe_callB (call_reprD hgd hr.units) (by rfl) T.repr (by decide +kernel) (pa_cons (pe_c c_p_mark_cut hr (by decide) (by rfl) (pa_cons (pv 7) (pa_cons (pv 3) pa_nil))) pa_nil)) (pe_callB (call_reprD hgd hr.units) (by rfl) T.repr (by decide +kernel) (pa_cons (pe_c c_l_mark_end hr (by decide) (by rfl) (pa_cons (pv 7) (pa_cons (pv 3) pa_nil))) pa_nil)) (nomark _))
            (pss_one (ps_ret pe_bl))
            pss_nil)))))))))
        (pss_one (ps_if (PW.pt (pw_or (pt_cmpR op_ne (pe_callB (call_reprD hgd hr.units) (by rfl) T.repr (by decide +kernel) (pa_cons (pe_c c_p_winds_of hr (by decide) (by rfl) (pa_cons (pv 5) (pa_cons (pv 3) pa_nil))) pa_nil)) (pe_callB (call_reprD hgd hr.units) (by rfl) T.repr (by decide +kernel) (pa_cons (pe_tupleOf (by rfl) T.tuple (pe_c c_l_winds_of hr (by decide) (by rfl) (pa_cons (pv 5) (pa_cons (pv 3) pa_nil)))) pa_nil)) (nomark _)) (pw_or1 (pt_cmpR op_ne (pe_callB (call_reprD hgd hr.units) (by rfl) T.repr (by decide +kernel) (pa_cons (pv 3) pa_nil)) (pv 4) (nomark _)))))
          (pss_one (ps_ret pe_bl))
          pss_nil))))))))
      (pss_one (ps_ret pe_bl)))), ?_⟩
    refine ⟨_, rfl, a, ns, rfl, hS, hlen, fun h c H1 s1 hn hcn hh1 => ?_⟩
    refine ⟨4, rfl, by decide, by decide, ?_⟩
    refine for_it (walk_upto (n := (4 : Int).toNat)) (fun i σ H' => ∃ v2 v3 v4 v5 v6 v7 v8 v9 v10 : Option V, σ = [some (.ref a), some (.ref h), v2, v3, v4, v5, v6, v7, v8, v9, v10] ∧ Hand H' h c)
      ⟨none, none, none, none, none, none, none, none, none, rfl, hh1⟩ (fun _ _ _ _ _ => trivial) ?_ (fun σ H' _ => k H')
    rintro i0 v σ H0 H2 hi ⟨v2, v3, v4, v5, v6, v7, v8, v9, v10, rfl, hh2⟩ ⟨rfl, rfl⟩
    -- things
    refine ⟨_, rfl, _, rfl, h, c, _, rfl, hh2, by decide, by decide, fun n H3 n0 n1 k3 hh3 => ⟨_, _, rfl, rfl, h, c, _, rfl, hh3, by omega, by omega, fun d es kvs H4 k4 hh4 hd ht4 hk => ?_⟩⟩
    obtain ⟨n, rfl⟩ : ∃ j : Nat, n = (j : Int) := ⟨n.toNat, by omega⟩
    have hnn : (1 + (n : Int)).toNat = n + 1 := by omega
    rw [hnn] at hk
    have hb9 : ∀ b ∈ births (n + 1), b.natAbs < 10 ^ 12 := fun b hb => by
      have := births_mem.mp hb
      omega
    -- kept
    have r4 := ht4.rok hk (by omega)
    refine ⟨_, rfl, _, _, rfl, r4.1, r4.2.1, r4.2.2.1, r4.2.2.2, ?_⟩
    -- present
    refine ⟨_, rfl, _, rfl, _, rfl, by show 3 ≤ sizeLine; decide, fun l hl => ?_⟩
    have s5 := same_new (o := .lst [.int 4, .int 12, .int 30]) hl
    have hh5 := hh4.same s5
    refine ⟨h, c, l, _, rfl, hh5, .inl ⟨.inl (.inl upd_same), (hh4.there hl).1⟩, by simp, by show 3 ≤ 1000; decide, fun v H6 hv k6 hh6 => ?_⟩
    obtain ⟨most, rfl, hm0, hm1⟩ : ∃ m : Int, v = .int m ∧ 0 ≤ m ∧ m ≤ 30 := by
      rcases List.mem_cons.mp hv with rfl | hv
      · exact ⟨4, rfl, by decide, by decide⟩
      · rcases List.mem_cons.mp hv with rfl | hv
        · exact ⟨12, rfl, by decide, by decide⟩
        · cases List.mem_singleton.mp hv
          exact ⟨30, rfl, by decide, by decide⟩
    have dnh : ¬ d = h := hh4.ne (fun xs e => by rw [ht4.at_] at e; cases e)
    have ht6 := (ht4.same s5).kp k6 dnh
    refine ⟨h, c, d, most, es, kvs, n + 1, rfl, hh6, ht6, hk, by omega, by omega, hm0, by omega, fun pt fs H7 k7 hh7 hpt hfl hfs => ?_⟩
    have ht7 := ht6.kp k7 dnh
    -- goals
    refine ⟨_, rfl, _, rfl, _, rfl, h, c, d, pt, es, kvs, n + 1, fs, rfl, hh7, ht7, hk, by omega, by omega, hpt, by omega, hfs, fun t1 g1 H8 k8 hh8 ht8 hl8 hg8 => ?_⟩
    refine ⟨_, rfl, _, rfl, _, rfl, h, c, d, pt, es, kvs, n + 1, fs, rfl, hh8, ht7.kp k8 dnh, hk, by omega, by omega, k8.tup hpt, by omega, hfs, fun t2 g2 H9 k9 hh9 ht9 hl9 hg9 => ?_⟩
    have k89 := k8.trans k9
    refine ⟨_, rfl, _, rfl, h, c, d, _, es, kvs, n + 1, rfl, hh9, ht7.kp k89 dnh, hk, by omega, by omega, by decide, by decide, fun t3 g3 Ha ka hha hta hla hga => ?_⟩
    have k8a := k89.trans ka
    refine ⟨_, rfl, Nat.zero_le _, fun t5 ht5 => ⟨by show 5 ≤ sizeLine; decide, fun L hL => ?_⟩⟩
    have sb := (same_new (o := .tup []) ht5).trans (same_new (o := .lst [.ref t1, .ref t2, .ref t3, .ref pt, .ref t5]) hL)
    have goals : ∀ x ∈ [V.ref t1, .ref t2, .ref t3, .ref pt, .ref t5], ∃ (t : Addr) (gs : List Int), x = V.ref t ∧ SqT K (upd (upd Ha t5 (.tup [])) L (.lst [.ref t1, .ref t2, .ref t3, .ref pt, .ref t5])) t (gs.map V.int) ∧ gs.length ≤ 300 ∧ ∀ b ∈ gs, b ∈ births (n + 1) := by
      intro x hx
      simp only [List.mem_cons, List.not_mem_nil, or_false] at hx
      rcases hx with rfl | rfl | rfl | rfl | rfl
      · exact ⟨t1, g1, rfl, sqt_same sb (ka.tup (k9.tup ht8)), hl8, hg8⟩
      · exact ⟨t2, g2, rfl, sqt_same sb (ka.tup ht9), hl9, hg9⟩
      · exact ⟨t3, g3, rfl, sqt_same sb hta, by omega, hga⟩
      · exact ⟨pt, fs, rfl, sqt_same sb (k8a.tup hpt), by omega, hfs⟩
      · exact ⟨t5, [], rfl, sqt_same (same_new (o := .lst [.ref t1, .ref t2, .ref t3, .ref pt, .ref t5]) hL) (.inl (.inl upd_same)), by simp, by simp⟩
    have hLl : (upd (upd Ha t5 (.tup [])) L (.lst [.ref t1, .ref t2, .ref t3, .ref pt, .ref t5])) L = some (.lst [.ref t1, .ref t2, .ref t3, .ref pt, .ref t5]) := upd_same
    have hhL := hha.same sb
    have htL := (ht7.kp k8a dnh).same sb
    have hptL := sqt_same sb (k8a.tup hpt)
    generalize (upd (upd Ha t5 (.tup [])) L (.lst [.ref t1, .ref t2, .ref t3, .ref pt, .ref t5])) = HL at goals hLl hhL htL hptL
    have hf9 : ∀ b ∈ fs, b.natAbs < 10 ^ 12 := fun b hb => hb9 b (hfs b hb)
    have fl9 : fs.length ≤ 1000 := by omega
    have fr : ∀ {H'}, Same HL H' → Fr K H' pt d fs es kvs := fun s => ⟨sqt_same s hptL, htL.same s, by rw [hk]; exact hfs, fl9⟩
    refine ⟨_, rfl, L, rfl, ⟨_, .inl (.inl hLl)⟩, ?_⟩
    refine for_it (walk_list (xs := [V.ref t1, .ref t2, .ref t3, .ref pt, .ref t5])) (fun i σ H' => ∃ v7 v8 v9 v10 : Option V, σ = [some (.ref a), some (.ref h), some (.int (i0 : Nat)), some (.ref d), some (.str (PyData.dict (es.map fun e => (PyData.int e.1, e.2))).shown), some (.ref pt), some (.ref L), v7, v8, v9, v10] ∧ Same HL H')
      ⟨_, _, _, _, rfl, Same.refl _⟩ (fun _ _ _ _ z => ?_) ?_ ?_
    · obtain ⟨_, _, _, _, _, q⟩ := z
      exact q.seq (.inl (.inl hLl))
    · rintro j x σ Hx H1 hj ⟨v7, v8, v9, v10, rfl, sL⟩ ⟨rfl, e2⟩
      obtain ⟨t, gs, rfl, hg, lg, bg⟩ := goals x (List.mem_of_getElem? e2)
      have hg9 : ∀ b ∈ gs, b.natAbs < 10 ^ 12 := fun b hb => hb9 b (bg b hb)
      have gl9 : gs.length ≤ 1000 := by omega
      have fg : ∀ {H'}, Same HL H' → Fr K H' t d gs es kvs := fun s => ⟨sqt_same s hg, htL.same s, by rw [hk]; exact bg, gl9⟩
      refine ⟨_, rfl, _, rfl, _, rfl, pt, t, d, fs, gs, es, kvs, rfl, fr sL, fg sL, fun u m xs H3 s3 hu hm0 hm hd => ?_⟩
      refine ⟨u, _, rfl, hu, rfl, _, _, rfl, _, _, rfl, rfl, ?_⟩
      have sL3 := sL.trans s3
      -- deeds
      have sd := sm_deeds (es := es) hf9 hg9 fl9 gl9
      refine ⟨_, rfl, _, rfl, _, rfl, pt, t, d, fs, gs, es, kvs, rfl, fr sL3, fg sL3, fun q ys H4 s4 hq hdq => ?_⟩
      have r1 := sd.rok (by decide) (by decide) (K := K) (H := H4) (x := .ref q) (.inl (.tup hq hdq))
      refine ⟨_, _, rfl, r1.1, r1.2.1, r1.2.2.1, r1.2.2.2, ?_⟩
      refine ⟨_, rfl, .inl ⟨m, xs, rfl, .inl (.inl (s4 _ _ hm)), fun q2 hq2 => ?_⟩⟩
      have s5 := same_new (o := .tup xs) hq2
      have r2 := sd.rok (by decide) (by decide) (K := K) (H := upd H4 q2 (.tup xs)) (x := .ref q2) (.inl (.tup (.inl (.inl upd_same)) (dps_same (s4.trans s5) _ _ hd)))
      refine ⟨_, _, rfl, r2.1, r2.2.1, r2.2.2.1, r2.2.2.2, rfl, _, rfl, ?_⟩
      rw [ne_same]
      refine iteF ?_
      have sL5 := sL3.trans (s4.trans s5)
      -- turned
      have sd2 := sm_deeds (es := es) hg9 hf9 gl9 fl9
      refine ⟨_, rfl, _, rfl, _, rfl, t, pt, d, gs, fs, es, kvs, rfl, fg sL5, fr sL5, fun q3 y3 H6 s6 hq3 hd3 => ?_⟩
      have r3 := sd2.rok (by decide) (by decide) (K := K) (H := H6) (x := .ref q3) (.inl (.tup hq3 hd3))
      refine ⟨_, _, rfl, r3.1, r3.2.1, r3.2.2.1, r3.2.2.2, ?_⟩
      have s46 := (s4.trans s5).trans s6
      have sL6 := sL5.trans s6
      have hdl : (deedsM (winds es fs) (winds es gs)).length ≤ 4000 := by
        have := deeds_len (winds es fs) (winds es gs)
        have := winds_len es fs
        have := winds_len es gs
        omega
      refine ⟨_, rfl, m, xs, _, rfl, s46 _ _ hm, dps_same s46 _ _ hd, hdl, fun m2 y4 H7 s7 _ hm2 hd4 => ?_⟩
      rw [turn_deeds] at hd4
      refine .inl ⟨m2, y4, rfl, .inl (.inl hm2), fun q4 hq4 => ?_⟩
      have s8 := same_new (o := .tup y4) hq4
      have r4 := sd2.rok (by decide) (by decide) (K := K) (H := upd H7 q4 (.tup y4)) (x := .ref q4) (.inl (.tup (.inl (.inl upd_same)) (dps_same s8 _ _ hd4)))
      refine ⟨_, _, rfl, r4.1, r4.2.1, r4.2.2.1, r4.2.2.2, rfl, _, rfl, ?_⟩
      rw [ne_same]
      refine iteF ?_
      have sL8 := sL6.trans (s7.trans s8)
      -- shared
      refine ⟨_, rfl, _, rfl, _, rfl, pt, t, d, fs, gs, es, kvs, rfl, fr sL8, fg sL8, fun H9 s9 => ?_⟩
      have sL9 := sL8.trans s9
      have hcm : (((common (winds es fs) (winds es gs) : Nat) : Int)).natAbs < 10 ^ 12 := by
        have := common_le (winds es fs) (winds es gs)
        have := winds_len es fs
        omega
      have r5 := (sm_int hcm).rok (by decide) (by decide) (K := K) (H := H9) (x := .int ((common (winds es fs) (winds es gs) : Nat) : Int)) (.inl (.int _))
      refine ⟨_, rfl, _, _, rfl, r5.1, r5.2.1, r5.2.2.1, r5.2.2.2, ?_⟩
      refine ⟨_, rfl, _, _, rfl, r5.1, r5.2.1, r5.2.2.1, r5.2.2.2, rfl, _, rfl, ?_⟩
      rw [ne_same]
      refine iteF ?_
      refine ⟨_, rfl, _, rfl, _, rfl, t, pt, d, gs, fs, es, kvs, rfl, fg sL9, fr sL9, fun H10 s10 => ?_⟩
      rw [common_comm (winds es gs) (winds es fs)]
      refine ⟨_, rfl, rfl, _, rfl, ?_⟩
      rw [ne_same]
      refine iteF ?_
      have sL10 := sL9.trans s10
      -- winds of the goal
      have sw := sm_winds (es := es) hg9 gl9
      refine ⟨_, rfl, _, rfl, t, d, gs, es, kvs, rfl, fg sL10, fun q5 y5 H11 s11 hq5 hd5 => ?_⟩
      have r6 := sw.rok (by decide) (by decide) (K := K) (H := H11) (x := .ref q5) (.inl (.tup hq5 hd5))
      refine ⟨_, _, rfl, r6.1, r6.2.1, r6.2.2.1, r6.2.2.2, ?_⟩
      refine ⟨_, rfl, _, rfl, t, d, gs, es, kvs, rfl, fg (sL10.trans s11), fun m6 y6 H12 s12 _ hm6 hd6 => ?_⟩
      refine .inl ⟨m6, y6, rfl, .inl (.inl hm6), fun q6 hq6 => ?_⟩
      have s13 := same_new (o := .tup y6) hq6
      have r7 := sw.rok (by decide) (by decide) (K := K) (H := upd H12 q6 (.tup y6)) (x := .ref q6) (.inl (.tup (.inl (.inl upd_same)) (dps_same s13 _ _ hd6)))
      refine ⟨_, _, rfl, r7.1, r7.2.1, r7.2.2.1, r7.2.2.2, rfl, _, rfl, ?_⟩
      rw [ne_same]
      refine iteF ?_
      have sL13 := sL10.trans (s11.trans (s12.trans s13))
      -- the mark's cut
      refine ⟨_, rfl, _, rfl, t, d, gs, es, kvs, rfl, fg sL13, fun H14 s14 => ?_⟩
      have hct : (((cutAll es gs : Nat) : Int)).natAbs < 10 ^ 12 := by
        have := cut_le es gs
        omega
      have r8 := (sm_int hct).rok (by decide) (by decide) (K := K) (H := H14) (x := .int ((cutAll es gs : Nat) : Int)) (.inl (.int _))
      refine ⟨_, _, rfl, r8.1, r8.2.1, r8.2.2.1, r8.2.2.2, ?_⟩
      refine ⟨_, rfl, _, rfl, t, d, gs, es, kvs, rfl, fg (sL13.trans s14), fun H15 s15 => ?_⟩
      have r9 := (sm_int hct).rok (by decide) (by decide) (K := K) (H := H15) (x := .int ((cutAll es gs : Nat) : Int)) (.inl (.int _))
      refine ⟨_, _, rfl, r9.1, r9.2.1, r9.2.2.1, r9.2.2.2, rfl, _, rfl, ?_⟩
      rw [ne_same]
      exact iteF ⟨_, _, _, _, rfl, sL13.trans (s14.trans s15)⟩
    · rintro σ H1 ⟨v7, v8, v9, v10, rfl, sL⟩
      have sw := sm_winds (es := es) hf9 fl9
      refine ⟨_, rfl, _, rfl, pt, d, fs, es, kvs, rfl, fr sL, fun q5 y5 H11 s11 hq5 hd5 => ?_⟩
      have r6 := sw.rok (by decide) (by decide) (K := K) (H := H11) (x := .ref q5) (.inl (.tup hq5 hd5))
      refine ⟨_, _, rfl, r6.1, r6.2.1, r6.2.2.1, r6.2.2.2, ?_⟩
      refine ⟨_, rfl, _, rfl, pt, d, fs, es, kvs, rfl, fr (sL.trans s11), fun m6 y6 H12 s12 _ hm6 hd6 => ?_⟩
      refine .inl ⟨m6, y6, rfl, .inl (.inl hm6), fun q6 hq6 => ?_⟩
      have s13 := same_new (o := .tup y6) hq6
      have r7 := sw.rok (by decide) (by decide) (K := K) (H := upd H12 q6 (.tup y6)) (x := .ref q6) (.inl (.tup (.inl (.inl upd_same)) (dps_same s13 _ _ hd6)))
      refine ⟨_, _, rfl, r7.1, r7.2.1, r7.2.2.1, r7.2.2.2, rfl, _, rfl, ?_⟩
      rw [ne_same]
      refine iteF ?_
      have sLe := sL.trans (s11.trans (s12.trans s13))
      have re := (htL.same sLe).rok hk (by omega)
      refine ⟨_, rfl, _, _, rfl, re.1, re.2.1, re.2.2.1, re.2.2.2, _, rfl, rfl, _, rfl, ?_⟩
      rw [ne_same]
      exact iteF ⟨_, _, _, _, _, _, _, _, _, rfl, hhL.same sLe⟩
end
end K09

namespace K09
open PySem L2 Cm
theorem at_mk {K : PySem.W.Frag} {h : Heap} {mg : Str → Option Value} {x : Str} {st : Stmt} {ps : List Str} {f : Addr} {oc : Value} {od an : Option Addr} {osl : Array (Option Value)} {kV doc pm cdv ct : Value} (X : K.In h) (G : h.Ns mainGlobals mg)
    (a : PySem.W.nsIn K mainGlobals x = some (some (.ref f))) (l : K.lookup f = some ⟨oc, od, .func (PySem.W.fnOf x x (defArgs st) (defBody st) (defScope st) .none kV doc pm an cdv ct), osl⟩) (c : PySem.W.codeIn K cdv x = true) (k : PySem.W.keepIn K (.ref f) = true)
    (b : ∀ (kV doc pm : Value) (an : Option Addr) (cdv ct : Value) (us : List Value), us.length = ps.length → bindArgs (PySem.W.fnOf x x (defArgs st) (defBody st) (defScope st) .none kV doc pm an cdv ct) ⟨us, []⟩ = pure (ps.zip us)) : At K mg x st ps :=
  ⟨_, _, fun_mk l c k, PySem.W.mg_of X G a, (fun_mk l c k).binds b⟩
theorem all_mk {l : PySem.W.OpenLaw} {w : World} {K : PySem.W.Frag} {h : Heap} {mg : Str → Option Value} {fa f0 f1 f2 f3 f4 f5 f6 f7 f8 f9 f10 f11 f12 f13 f14 f15 f16 : Addr} (X : K.In h) (G : h.Ns mainGlobals mg) (hfa : mg "law" = some (.ref fa))
    {od0 an0 : Option Addr} {sl0 : Array (Option Value)} {oc0 kV0 dc0 pm0 cd0 ct0 : Value} (a0 : PySem.W.nsIn K mainGlobals "_law_mix" = some (some (.ref f0))) (l0 : K.lookup f0 = some ⟨oc0, od0, .func (PySem.W.fnOf "_law_mix" "_law_mix" (defArgs s_l_mix) (defBody s_l_mix) (defScope s_l_mix) .none kV0 dc0 pm0 an0 cd0 ct0), sl0⟩) (c0 : PySem.W.codeIn K cd0 "_law_mix" = true) (k0 : PySem.W.keepIn K (.ref f0) = true)
    {od1 an1 : Option Addr} {sl1 : Array (Option Value)} {oc1 kV1 dc1 pm1 cd1 ct1 : Value} (a1 : PySem.W.nsIn K mainGlobals "_law_hand" = some (some (.ref f1))) (l1 : K.lookup f1 = some ⟨oc1, od1, .func (PySem.W.fnOf "_law_hand" "_law_hand" (defArgs s_l_hand) (defBody s_l_hand) (defScope s_l_hand) .none kV1 dc1 pm1 an1 cd1 ct1), sl1⟩) (c1 : PySem.W.codeIn K cd1 "_law_hand" = true) (k1 : PySem.W.keepIn K (.ref f1) = true)
    {od2 an2 : Option Addr} {sl2 : Array (Option Value)} {oc2 kV2 dc2 pm2 cd2 ct2 : Value} (a2 : PySem.W.nsIn K mainGlobals "_law_draw" = some (some (.ref f2))) (l2 : K.lookup f2 = some ⟨oc2, od2, .func (PySem.W.fnOf "_law_draw" "_law_draw" (defArgs s_l_draw) (defBody s_l_draw) (defScope s_l_draw) .none kV2 dc2 pm2 an2 cd2 ct2), sl2⟩) (c2 : PySem.W.codeIn K cd2 "_law_draw" = true) (k2 : PySem.W.keepIn K (.ref f2) = true)
    {od3 an3 : Option Addr} {sl3 : Array (Option Value)} {oc3 kV3 dc3 pm3 cd3 ct3 : Value} (a3 : PySem.W.nsIn K mainGlobals "_law_pick" = some (some (.ref f3))) (l3 : K.lookup f3 = some ⟨oc3, od3, .func (PySem.W.fnOf "_law_pick" "_law_pick" (defArgs s_l_pick) (defBody s_l_pick) (defScope s_l_pick) .none kV3 dc3 pm3 an3 cd3 ct3), sl3⟩) (c3 : PySem.W.codeIn K cd3 "_law_pick" = true) (k3 : PySem.W.keepIn K (.ref f3) = true)
    {od4 an4 : Option Addr} {sl4 : Array (Option Value)} {oc4 kV4 dc4 pm4 cd4 ct4 : Value} (a4 : PySem.W.nsIn K mainGlobals "_law_things" = some (some (.ref f4))) (l4 : K.lookup f4 = some ⟨oc4, od4, .func (PySem.W.fnOf "_law_things" "_law_things" (defArgs s_l_things) (defBody s_l_things) (defScope s_l_things) .none kV4 dc4 pm4 an4 cd4 ct4), sl4⟩) (c4 : PySem.W.codeIn K cd4 "_law_things" = true) (k4 : PySem.W.keepIn K (.ref f4) = true)
    {od5 an5 : Option Addr} {sl5 : Array (Option Value)} {oc5 kV5 dc5 pm5 cd5 ct5 : Value} (a5 : PySem.W.nsIn K mainGlobals "_law_row" = some (some (.ref f5))) (l5 : K.lookup f5 = some ⟨oc5, od5, .func (PySem.W.fnOf "_law_row" "_law_row" (defArgs s_l_row) (defBody s_l_row) (defScope s_l_row) .none kV5 dc5 pm5 an5 cd5 ct5), sl5⟩) (c5 : PySem.W.codeIn K cd5 "_law_row" = true) (k5 : PySem.W.keepIn K (.ref f5) = true)
    {od6 an6 : Option Addr} {sl6 : Array (Option Value)} {oc6 kV6 dc6 pm6 cd6 ct6 : Value} (a6 : PySem.W.nsIn K mainGlobals "winds_of" = some (some (.ref f6))) (l6 : K.lookup f6 = some ⟨oc6, od6, .func (PySem.W.fnOf "winds_of" "winds_of" (defArgs s_p_winds_of) (defBody s_p_winds_of) (defScope s_p_winds_of) .none kV6 dc6 pm6 an6 cd6 ct6), sl6⟩) (c6 : PySem.W.codeIn K cd6 "winds_of" = true) (k6 : PySem.W.keepIn K (.ref f6) = true)
    {od7 an7 : Option Addr} {sl7 : Array (Option Value)} {oc7 kV7 dc7 pm7 cd7 ct7 : Value} (a7 : PySem.W.nsIn K mainGlobals "_law_winds_of" = some (some (.ref f7))) (l7 : K.lookup f7 = some ⟨oc7, od7, .func (PySem.W.fnOf "_law_winds_of" "_law_winds_of" (defArgs s_l_winds_of) (defBody s_l_winds_of) (defScope s_l_winds_of) .none kV7 dc7 pm7 an7 cd7 ct7), sl7⟩) (c7 : PySem.W.codeIn K cd7 "_law_winds_of" = true) (k7 : PySem.W.keepIn K (.ref f7) = true)
    {od8 an8 : Option Addr} {sl8 : Array (Option Value)} {oc8 kV8 dc8 pm8 cd8 ct8 : Value} (a8 : PySem.W.nsIn K mainGlobals "_shared_many" = some (some (.ref f8))) (l8 : K.lookup f8 = some ⟨oc8, od8, .func (PySem.W.fnOf "_shared_many" "_shared_many" (defArgs s_p_shared_many) (defBody s_p_shared_many) (defScope s_p_shared_many) .none kV8 dc8 pm8 an8 cd8 ct8), sl8⟩) (c8 : PySem.W.codeIn K cd8 "_shared_many" = true) (k8 : PySem.W.keepIn K (.ref f8) = true)
    {od9 an9 : Option Addr} {sl9 : Array (Option Value)} {oc9 kV9 dc9 pm9 cd9 ct9 : Value} (a9 : PySem.W.nsIn K mainGlobals "shared_winds" = some (some (.ref f9))) (l9 : K.lookup f9 = some ⟨oc9, od9, .func (PySem.W.fnOf "shared_winds" "shared_winds" (defArgs s_p_shared_winds) (defBody s_p_shared_winds) (defScope s_p_shared_winds) .none kV9 dc9 pm9 an9 cd9 ct9), sl9⟩) (c9 : PySem.W.codeIn K cd9 "shared_winds" = true) (k9 : PySem.W.keepIn K (.ref f9) = true)
    {od10 an10 : Option Addr} {sl10 : Array (Option Value)} {oc10 kV10 dc10 pm10 cd10 ct10 : Value} (a10 : PySem.W.nsIn K mainGlobals "deeds_of_way" = some (some (.ref f10))) (l10 : K.lookup f10 = some ⟨oc10, od10, .func (PySem.W.fnOf "deeds_of_way" "deeds_of_way" (defArgs s_p_deeds_of_way) (defBody s_p_deeds_of_way) (defScope s_p_deeds_of_way) .none kV10 dc10 pm10 an10 cd10 ct10), sl10⟩) (c10 : PySem.W.codeIn K cd10 "deeds_of_way" = true) (k10 : PySem.W.keepIn K (.ref f10) = true)
    {od11 an11 : Option Addr} {sl11 : Array (Option Value)} {oc11 kV11 dc11 pm11 cd11 ct11 : Value} (a11 : PySem.W.nsIn K mainGlobals "mark_cut" = some (some (.ref f11))) (l11 : K.lookup f11 = some ⟨oc11, od11, .func (PySem.W.fnOf "mark_cut" "mark_cut" (defArgs s_p_mark_cut) (defBody s_p_mark_cut) (defScope s_p_mark_cut) .none kV11 dc11 pm11 an11 cd11 ct11), sl11⟩) (c11 : PySem.W.codeIn K cd11 "mark_cut" = true) (k11 : PySem.W.keepIn K (.ref f11) = true)
    {od12 an12 : Option Addr} {sl12 : Array (Option Value)} {oc12 kV12 dc12 pm12 cd12 ct12 : Value} (a12 : PySem.W.nsIn K mainGlobals "_law_mark_end" = some (some (.ref f12))) (l12 : K.lookup f12 = some ⟨oc12, od12, .func (PySem.W.fnOf "_law_mark_end" "_law_mark_end" (defArgs s_l_mark_end) (defBody s_l_mark_end) (defScope s_l_mark_end) .none kV12 dc12 pm12 an12 cd12 ct12), sl12⟩) (c12 : PySem.W.codeIn K cd12 "_law_mark_end" = true) (k12 : PySem.W.keepIn K (.ref f12) = true)
    {od13 an13 : Option Addr} {sl13 : Array (Option Value)} {oc13 kV13 dc13 pm13 cd13 ct13 : Value} (a13 : PySem.W.nsIn K mainGlobals "_law_turned" = some (some (.ref f13))) (l13 : K.lookup f13 = some ⟨oc13, od13, .func (PySem.W.fnOf "_law_turned" "_law_turned" (defArgs s_l_turned) (defBody s_l_turned) (defScope s_l_turned) .none kV13 dc13 pm13 an13 cd13 ct13), sl13⟩) (c13 : PySem.W.codeIn K cd13 "_law_turned" = true) (k13 : PySem.W.keepIn K (.ref f13) = true)
    {od14 an14 : Option Addr} {sl14 : Array (Option Value)} {oc14 kV14 dc14 pm14 cd14 ct14 : Value} (a14 : PySem.W.nsIn K mainGlobals "_law_deeds" = some (some (.ref f14))) (l14 : K.lookup f14 = some ⟨oc14, od14, .func (PySem.W.fnOf "_law_deeds" "_law_deeds" (defArgs s_l_deeds) (defBody s_l_deeds) (defScope s_l_deeds) .none kV14 dc14 pm14 an14 cd14 ct14), sl14⟩) (c14 : PySem.W.codeIn K cd14 "_law_deeds" = true) (k14 : PySem.W.keepIn K (.ref f14) = true)
    {od15 an15 : Option Addr} {sl15 : Array (Option Value)} {oc15 kV15 dc15 pm15 cd15 ct15 : Value} (a15 : PySem.W.nsIn K mainGlobals "_law_near" = some (some (.ref f15))) (l15 : K.lookup f15 = some ⟨oc15, od15, .func (PySem.W.fnOf "_law_near" "_law_near" (defArgs s_l_near) (defBody s_l_near) (defScope s_l_near) .none kV15 dc15 pm15 an15 cd15 ct15), sl15⟩) (c15 : PySem.W.codeIn K cd15 "_law_near" = true) (k15 : PySem.W.keepIn K (.ref f15) = true)
    {od16 an16 : Option Addr} {sl16 : Array (Option Value)} {oc16 kV16 dc16 pm16 cd16 ct16 : Value} (a16 : PySem.W.nsIn K mainGlobals "law" = some (some (.ref f16))) (l16 : K.lookup f16 = some ⟨oc16, od16, .func (PySem.W.fnOf "law" "law" (defArgs s_law) (defBody s_law) (defScope s_law) .none kV16 dc16 pm16 an16 cd16 ct16), sl16⟩) (c16 : PySem.W.codeIn K cd16 "law" = true) (k16 : PySem.W.keepIn K (.ref f16) = true)
    (z_abs : PySem.W.nsIn K mainGlobals "abs" = some none)
    (z_enumerate : PySem.W.nsIn K mainGlobals "enumerate" = some none)
    (z_int : PySem.W.nsIn K mainGlobals "int" = some none)
    (z_len : PySem.W.nsIn K mainGlobals "len" = some none)
    (z_max : PySem.W.nsIn K mainGlobals "max" = some none)
    (z_min : PySem.W.nsIn K mainGlobals "min" = some none)
    (z_range : PySem.W.nsIn K mainGlobals "range" = some none)
    (z_repr : PySem.W.nsIn K mainGlobals "repr" = some none)
    (z_sorted : PySem.W.nsIn K mainGlobals "sorted" = some none)
    (z_tuple : PySem.W.nsIn K mainGlobals "tuple" = some none)
    (z_zip : PySem.W.nsIn K mainGlobals "zip" = some none)
    : ∃ fd : FuncData, (∀ (s : Shared) (v : Value), BindsTo s fd ⟨[v], []⟩ [("_law_script", v)]) ∧ ∀ base : Heap, K.In base → base.Ns mainGlobals mg → LawAt l.prog w K mg base 7 fa fd ["_law_script"] (spLaw K) := by
  have e := hfa.symm.trans (PySem.W.mg_of X G a16)
  cases e
  have T : Txt mg := ⟨PySem.W.mg_none_of X G z_abs, PySem.W.mg_none_of X G z_enumerate, PySem.W.mg_none_of X G z_int, PySem.W.mg_none_of X G z_len, PySem.W.mg_none_of X G z_max, PySem.W.mg_none_of X G z_min, PySem.W.mg_none_of X G z_range, PySem.W.mg_none_of X G z_repr, PySem.W.mg_none_of X G z_sorted, PySem.W.mg_none_of X G z_tuple, PySem.W.mg_none_of X G z_zip⟩
  have D_mix := at_mk (st := s_l_mix) (ps := ["_law_number", "_law_turn"]) X G a0 l0 c0 k0 fun _ _ _ _ _ _ us hl => match us, hl with | [_, _], _ => rfl
  have D_hand := at_mk (st := s_l_hand) (ps := ["_law_script"]) X G a1 l1 c1 k1 fun _ _ _ _ _ _ us hl => match us, hl with | [_], _ => rfl
  have D_draw := at_mk (st := s_l_draw) (ps := ["_law_hand_here", "_law_many"]) X G a2 l2 c2 k2 fun _ _ _ _ _ _ us hl => match us, hl with | [_, _], _ => rfl
  have D_pick := at_mk (st := s_l_pick) (ps := ["_law_hand_here", "_law_things_here"]) X G a3 l3 c3 k3 fun _ _ _ _ _ _ us hl => match us, hl with | [_, _], _ => rfl
  have D_things := at_mk (st := s_l_things) (ps := ["_law_hand_here", "_law_many"]) X G a4 l4 c4 k4 fun _ _ _ _ _ _ us hl => match us, hl with | [_, _], _ => rfl
  have D_row := at_mk (st := s_l_row) (ps := ["_law_hand_here", "_law_things_here", "_law_most"]) X G a5 l5 c5 k5 fun _ _ _ _ _ _ us hl => match us, hl with | [_, _, _], _ => rfl
  have D_pw := at_mk (st := s_p_winds_of) (ps := ["frames", "things"]) X G a6 l6 c6 k6 fun _ _ _ _ _ _ us hl => match us, hl with | [_, _], _ => rfl
  have D_lw := at_mk (st := s_l_winds_of) (ps := ["_law_frames", "_law_things_here"]) X G a7 l7 c7 k7 fun _ _ _ _ _ _ us hl => match us, hl with | [_, _], _ => rfl
  have D_sm := at_mk (st := s_p_shared_many) (ps := ["left", "entered"]) X G a8 l8 c8 k8 fun _ _ _ _ _ _ us hl => match us, hl with | [_, _], _ => rfl
  have D_sw := at_mk (st := s_p_shared_winds) (ps := ["present", "goal", "things"]) X G a9 l9 c9 k9 fun _ _ _ _ _ _ us hl => match us, hl with | [_, _, _], _ => rfl
  have D_pd := at_mk (st := s_p_deeds_of_way) (ps := ["present", "goal", "things"]) X G a10 l10 c10 k10 fun _ _ _ _ _ _ us hl => match us, hl with | [_, _, _], _ => rfl
  have D_mc := at_mk (st := s_p_mark_cut) (ps := ["frames", "things"]) X G a11 l11 c11 k11 fun _ _ _ _ _ _ us hl => match us, hl with | [_, _], _ => rfl
  have D_me := at_mk (st := s_l_mark_end) (ps := ["_law_frames", "_law_things_here"]) X G a12 l12 c12 k12 fun _ _ _ _ _ _ us hl => match us, hl with | [_, _], _ => rfl
  have D_tu := at_mk (st := s_l_turned) (ps := ["_law_deeds_here"]) X G a13 l13 c13 k13 fun _ _ _ _ _ _ us hl => match us, hl with | [_], _ => rfl
  have D_ld := at_mk (st := s_l_deeds) (ps := ["_law_present", "_law_goal", "_law_things_here"]) X G a14 l14 c14 k14 fun _ _ _ _ _ _ us hl => match us, hl with | [_, _, _], _ => rfl
  have D_ne := at_mk (st := s_l_near) (ps := ["_law_hand_here", "_law_things_here", "_law_frames"]) X G a15 l15 c15 k15 fun _ _ _ _ _ _ us hl => match us, hl with | [_, _, _], _ => rfl
  refine ⟨PySem.W.fnOf "law" "law" (defArgs s_law) (defBody s_law) (defScope s_law) .none kV16 dc16 pm16 an16 cd16 ct16, fun s v => .of_eq rfl, fun base _ _ => ?_⟩
  have c1 := ok_mix (P := l.prog) (w := w) (base := base) T D_mix
  have c2 := ok_draw T c1 D_draw
  have c3 := ok_pick T c2 D_pick
  have c4 := ok_row T c2 c3 D_row
  have c5 := ok_pwinds (P := l.prog) (w := w) (base := base) T D_pw
  have c6 := ok_shared_many (P := l.prog) (w := w) (base := base) T D_sm
  have c7 := ok_lwinds (P := l.prog) (w := w) (base := base) T D_lw
  exact ok_law T ⟨ok_hand T D_hand, c2, c3, ok_things T c2 c3 D_things, c4, ok_near T c2 c4 D_ne, ok_ldeeds T c7 D_ld, ok_turned D_tu, c7, ok_mark_end T D_me, ok_pdeeds T c5 c6 D_pd, ok_shared_winds c5 c6 D_sw, c5, ok_mark_cut T D_mc⟩ (fun_mk (st := s_law) l16 c16 k16)
theorem walk {l : PySem.W.OpenLaw} {q : Program} {loose : List Str} {XP : (Str → Option Value) → Heap → Prop} {YP : World → Heap → Prop} {d : DefRec} {K : Params → PySem.W.Frag} (hn : l.most = some 63) (hdf : d.params.defaults = [])
    (hY : ∀ (w : World) (h : Heap), YP w h → (K w.params).In h)
    (F : ∀ (w : World) (mg : Str → Option Value) (fa : Addr) (h : Heap), (K w.params).In h → h.Ns mainGlobals mg → mg d.name = some (.ref fa) →
      ∃ fd : FuncData, (∀ (s : Shared) (u : Value), BindsTo s fd ⟨[u], []⟩ [("_law_script", u)]) ∧ ∀ base : Heap, (K w.params).In base → base.Ns mainGlobals mg → LawAt l.prog w (K w.params) mg base 7 fa fd ["_law_script"] (spLaw (K w.params))) :
    PySem.W.WalkO q loose XP YP l.row.toRowW d [] (fun f vs => PySem.call f vs) :=
  walk_law (n := 63) (k := 7) (x := "_law_script") (sp := fun K => spLaw K) hn (by decide) hdf ⟨rfl, by decide, by decide⟩ hY F fun _ _ a ns hl _ hS => ⟨a, ns, rfl, hS, hl, fun _ => rfl⟩
end K09

open PySem PySem.W PyProof.Rows in
set_option maxRecDepth 100000 in
set_option maxHeartbeats 0 in
theorem PySem.Challenge.cw_goonagain_k09_deeds_for_all_rows_of_fram_holds : PySem.Challenge.rw_goonagain_k09_deeds_for_all_rows_of_fram.Holds := by
  w_on; o_law; k_head; (case hw => w_witness2)
  k_fill
  refine K09.walk (l := PySem.Challenge.rw_goonagain_k09_deeds_for_all_rows_of_fram) rfl rfl (fun w h Y => PySem.W.kIn_of Y) ?F
  case F =>
    intro w mg fa h KX G hmg
    refine' K09.all_mk KX G hmg ?a0 ?l0 ?c0 ?k0 ?a1 ?l1 ?c1 ?k1 ?a2 ?l2 ?c2 ?k2 ?a3 ?l3 ?c3 ?k3 ?a4 ?l4 ?c4 ?k4 ?a5 ?l5 ?c5 ?k5 ?a6 ?l6 ?c6 ?k6 ?a7 ?l7 ?c7 ?k7 ?a8 ?l8 ?c8 ?k8 ?a9 ?l9 ?c9 ?k9 ?a10 ?l10 ?c10 ?k10 ?a11 ?l11 ?c11 ?k11 ?a12 ?l12 ?c12 ?k12 ?a13 ?l13 ?c13 ?k13 ?a14 ?l14 ?c14 ?k14 ?a15 ?l15 ?c15 ?k15 ?a16 ?l16 ?c16 ?k16 ?z_abs ?z_enumerate ?z_int ?z_len ?z_max ?z_min ?z_range ?z_repr ?z_sorted ?z_tuple ?z_zip
    (case a0 => k_is)
    (case l0 => k_is)
    (case c0 => k_is)
    (case k0 => k_is)
    (case a1 => k_is)
    (case l1 => k_is)
    (case c1 => k_is)
    (case k1 => k_is)
    (case a2 => k_is)
    (case l2 => k_is)
    (case c2 => k_is)
    (case k2 => k_is)
    (case a3 => k_is)
    (case l3 => k_is)
    (case c3 => k_is)
    (case k3 => k_is)
    (case a4 => k_is)
    (case l4 => k_is)
    (case c4 => k_is)
    (case k4 => k_is)
    (case a5 => k_is)
    (case l5 => k_is)
    (case c5 => k_is)
    (case k5 => k_is)
    (case a6 => k_is)
    (case l6 => k_is)
    (case c6 => k_is)
    (case k6 => k_is)
    (case a7 => k_is)
    (case l7 => k_is)
    (case c7 => k_is)
    (case k7 => k_is)
    (case a8 => k_is)
    (case l8 => k_is)
    (case c8 => k_is)
    (case k8 => k_is)
    (case a9 => k_is)
    (case l9 => k_is)
    (case c9 => k_is)
    (case k9 => k_is)
    (case a10 => k_is)
    (case l10 => k_is)
    (case c10 => k_is)
    (case k10 => k_is)
    (case a11 => k_is)
    (case l11 => k_is)
    (case c11 => k_is)
    (case k11 => k_is)
    (case a12 => k_is)
    (case l12 => k_is)
    (case c12 => k_is)
    (case k12 => k_is)
    (case a13 => k_is)
    (case l13 => k_is)
    (case c13 => k_is)
    (case k13 => k_is)
    (case a14 => k_is)
    (case l14 => k_is)
    (case c14 => k_is)
    (case k14 => k_is)
    (case a15 => k_is)
    (case l15 => k_is)
    (case c15 => k_is)
    (case k15 => k_is)
    (case a16 => k_is)
    (case l16 => k_is)
    (case c16 => k_is)
    (case k16 => k_is)
    (case z_abs => k_is)
    (case z_enumerate => k_is)
    (case z_int => k_is)
    (case z_len => k_is)
    (case z_max => k_is)
    (case z_min => k_is)
    (case z_range => k_is)
    (case z_repr => k_is)
    (case z_sorted => k_is)
    (case z_tuple => k_is)
    (case z_zip => k_is)
