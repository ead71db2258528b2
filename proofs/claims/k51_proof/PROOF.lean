import PyProof.Rows.All
import Wide.All
import OpenK.AllK
import Wide.FinOn
import HandS.ForMost
import HandS.Codes
import HandS.Wide
import HandS.TupAny
import HandS.Conv
import HandS.RevRange
import HandS.SortInts
import HandS.RaiseMore
import HandS.Style
import HandS.Walk
import HandS.Zip
import HandS.More
import KE.GoesEnum
import KE.GoesMore
import KE.KDictList
import KE.KDictSum
import HandS.IsInst
import HandS.Deep
import HandS.Exc
import HandS.ExcOwn
import HandS.ExcIs
import HandS.ExcField
import HandS.WordsExc
import HandS.ExcInit
import HandS.ExcValue
import PySem.Challenge.RW_goonagain_k51_whole_errors_side_by_side
set_option Elab.async false
set_option maxRecDepth 100000
set_option maxHeartbeats 4000000
/-! common part: what a call keeps, data, repr, the hand of draws -/
namespace Cm
open PySem L2

/-! ### what is kept but at the lists M -/
structure Kp (M : Addr → Prop) (H H' : Hp) : Prop where
  st : ∀ a o, ¬ M a → H a = some o → H' a = some o
  l1 : ∀ a, M a → ∃ xs, H a = some (.lst xs)
  l2 : ∀ a, M a → ∃ xs, H' a = some (.lst xs)
theorem Kp.trans {M : Addr → Prop} {H H1 H2 : Hp} (a : Kp M H H1) (b : Kp M H1 H2) : Kp M H H2 :=
  ⟨fun x o n e => b.st x o n (a.st x o n e), a.l1, b.l2⟩
theorem Kp.of_same {M : Addr → Prop} {H H' : Hp} (h : ∀ a, M a → ∃ xs, H a = some (.lst xs)) (s : Same H H') : Kp M H H' :=
  ⟨fun x o _ e => s x o e, h, fun a m => let ⟨xs, e⟩ := h a m; ⟨xs, s a _ e⟩⟩
theorem Kp.refl {M : Addr → Prop} {H : Hp} (h : ∀ a, M a → ∃ xs, H a = some (.lst xs)) : Kp M H H := .of_same h (Same.refl H)
theorem same_new {H : Hp} {p : Addr} {o : HO} (h : H p = Option.none) : Same H (upd H p o) := fun b u e => by
  rw [upd_ne (ne_of_none e h)]
  exact e
theorem Kp.new {M : Addr → Prop} {H : Hp} (h : ∀ a, M a → ∃ xs, H a = some (.lst xs)) {p : Addr} {o : HO} (hp : H p = Option.none) : Kp M H (upd H p o) :=
  .of_same h (same_new hp)
theorem Kp.put {M : Addr → Prop} {H : Hp} (h : ∀ a, M a → ∃ xs, H a = some (.lst xs)) {p : Addr} {ys : List V} (hp : M p) : Kp M H (upd H p (.lst ys)) :=
  ⟨fun x o n e => by
    rw [upd_ne (show x ≠ p by rintro rfl; exact n hp)]
    exact e, h, fun a m => by
    by_cases q : a = p
    · subst q
      exact ⟨ys, upd_same⟩
    · rw [upd_ne q]
      exact h a m⟩
theorem Kp.wider {M N : Addr → Prop} {H H' : Hp} (k : Kp M H H') (h : ∀ a, M a → N a) (l : ∀ a, N a → ∃ xs, H a = some (.lst xs)) : Kp N H H' :=
  ⟨fun x o n e => k.st x o (fun m => n (h x m)) e, l, fun a m => by
    by_cases q : M a
    · exact k.l2 a q
    · obtain ⟨xs, e⟩ := l a m
      exact ⟨xs, k.st a _ q e⟩⟩
theorem Kp.tup {M : Addr → Prop} {K : PySem.W.Frag} {H H' : Hp} {a : Addr} {xs : List V} (k : Kp M H H') (h : SqT K H a xs) : SqT K H' a xs := by
  have no : ∀ o, H a = some o → (∀ ys, o ≠ .lst ys) → ¬ M a := fun o e n m => by
    obtain ⟨ys, e2⟩ := k.l1 a m
    rw [e] at e2
    exact n ys (Option.some.inj e2)
  rcases h with (h | ⟨o, h⟩) | h
  · exact .inl (.inl (k.st _ _ (no _ h fun _ z => nomatch z) h))
  · exact .inl (.inr ⟨o, k.st _ _ (no _ h fun _ z => nomatch z) h⟩)
  · exact .inr h
theorem Kp.free {M : Addr → Prop} {H H' : Hp} {p : Addr} (k : Kp M H H') (h : H' p = Option.none) : H p = Option.none := by
  cases e : H p with
  | none => rfl
  | some o =>
    by_cases q : M p
    · obtain ⟨xs, e2⟩ := k.l2 p q
      rw [h] at e2
      cases e2
    · have := k.st p o q e
      rw [h] at this
      cases this
theorem Kp.m_of {M : Addr → Prop} {H H' : Hp} {p : Addr} (k : Kp M H H') (h : H p = Option.none) : ¬ M p := fun m => by
  obtain ⟨xs, e⟩ := k.l1 p m
  rw [h] at e
  cases e

/-! ### data -/
mutual
/-- no list, no dict in it -/
def flatD : PyData → Bool
  | .list _ => false
  | .dict _ => false
  | .tuple xs => flatDs xs
  | _ => true
def flatDs : List PyData → Bool
  | [] => true
  | x :: xs => flatD x && flatDs xs
end
mutual
theorem dp_keep {K : PySem.W.Frag} {H H' : Hp} (k : ∀ a xs, SqT K H a xs → SqT K H' a xs) : ∀ (d : PyData) (v : V), flatD d = true → Dp K H v d → Dp K H' v d
  | .none, _, _, h => by cases h; exact .non
  | .bool _, _, _, h => by cases h; exact .bl _
  | .int _, _, _, h => by cases h; exact .int _
  | .str _, _, _, h => by cases h; exact .str _
  | .list _, _, f, _ => by simp [flatD] at f
  | .dict _, _, f, _ => by simp [flatD] at f
  | .tuple ds, _, f, h => by
    cases h with
    | tup hs ha => exact .tup (k _ _ hs) (dps_keep k ds _ (by simpa [flatD] using f) ha)
theorem dps_keep {K : PySem.W.Frag} {H H' : Hp} (k : ∀ a xs, SqT K H a xs → SqT K H' a xs) : ∀ (ds : List PyData) (vs : List V), flatDs ds = true → DpAll K H vs ds → DpAll K H' vs ds
  | [], _, _, h => by cases h; exact .nil
  | d :: ds, _, f, h => by
    cases h with
    | cons h1 h2 =>
      have f' : flatD d = true ∧ flatDs ds = true := by simpa [flatDs] using f
      exact .cons (dp_keep k d _ f'.1 h1) (dps_keep k ds _ f'.2 h2)
end
mutual
/-- all lists in it are kept as well -/
theorem dp_same {K : PySem.W.Frag} {H H' : Hp} (s : Same H H') : ∀ (d : PyData) (v : V), Dp K H v d → Dp K H' v d
  | .none, _, h => by cases h; exact .non
  | .bool _, _, h => by cases h; exact .bl _
  | .int _, _, h => by cases h; exact .int _
  | .str _, _, h => by cases h; exact .str _
  | .dict _, _, h => by cases h
  | .list ds, _, h => by
    cases h with
    | lst hs ha => exact .lst (s.seq hs) (dps_same s ds _ ha)
  | .tuple ds, _, h => by
    cases h with
    | tup hs ha =>
      refine .tup ?_ (dps_same s ds _ ha)
      rcases hs with (h | ⟨o, h⟩) | h
      · exact .inl (.inl (s _ _ h))
      · exact .inl (.inr ⟨o, s _ _ h⟩)
      · exact .inr h
theorem dps_same {K : PySem.W.Frag} {H H' : Hp} (s : Same H H') : ∀ (ds : List PyData) (vs : List V), DpAll K H vs ds → DpAll K H' vs ds
  | [], _, h => by cases h; exact .nil
  | d :: ds, _, h => by
    cases h with
    | cons h1 h2 => exact .cons (dp_same s d _ h1) (dps_same s ds _ h2)
end
theorem DpAll.len {K : PySem.W.Frag} {H : Hp} : ∀ {vs : List V} {ds : List PyData}, DpAll K H vs ds → vs.length = ds.length
  | _, _, .nil => rfl
  | _, _, .cons _ h => congrArg (· + 1) (DpAll.len h)
theorem DpAll.at {K : PySem.W.Frag} {H : Hp} : ∀ {vs : List V} {ds : List PyData} {i : Nat} {d : PyData}, DpAll K H vs ds → ds[i]? = some d → ∃ v, vs[i]? = some v ∧ Dp K H v d
  | _, _, 0, d, .cons h _, e => by
    simp at e
    subst e
    exact ⟨_, rfl, h⟩
  | _, _, i + 1, d, .cons _ h, e => by
    obtain ⟨v, h1, h2⟩ := DpAll.at (i := i) (d := d) h (by simpa using e)
    exact ⟨v, by simpa using h1, h2⟩
theorem DpAll.atV {K : PySem.W.Frag} {H : Hp} : ∀ {vs : List V} {ds : List PyData} {i : Nat} {v : V}, DpAll K H vs ds → vs[i]? = some v → ∃ d, ds[i]? = some d ∧ Dp K H v d
  | _, _, 0, d, .cons h _, e => by
    simp at e
    subst e
    exact ⟨_, rfl, h⟩
  | _, _, i + 1, d, .cons _ h, e => by
    obtain ⟨v, h1, h2⟩ := DpAll.atV (i := i) (v := d) h (by simpa using e)
    exact ⟨v, by simpa using h1, h2⟩
theorem DpAll.snoc {K : PySem.W.Frag} {H : Hp} {v : V} {d : PyData} (h : Dp K H v d) : ∀ {vs : List V} {ds : List PyData}, DpAll K H vs ds → DpAll K H (vs ++ [v]) (ds ++ [d])
  | _, _, .nil => .cons h .nil
  | _, _, .cons a b => .cons a (DpAll.snoc h b)
theorem DpAll.app {K : PySem.W.Frag} {H : Hp} : ∀ {vs ws : List V} {ds es : List PyData}, DpAll K H vs ds → DpAll K H ws es → DpAll K H (vs ++ ws) (ds ++ es)
  | _, _, _, _, .nil, h => h
  | _, _, _, _, .cons a b, h => .cons a (DpAll.app b h)
theorem DpAll.take {K : PySem.W.Frag} {H : Hp} (n : Nat) : ∀ {vs : List V} {ds : List PyData}, DpAll K H vs ds → DpAll K H (vs.take n) (ds.take n) := by
  induction n with
  | zero => intro vs ds _; exact .nil
  | succ n ih =>
    intro vs ds h
    cases h with
    | nil => exact .nil
    | cons a b => exact .cons a (ih b)
theorem DpAll.drop {K : PySem.W.Frag} {H : Hp} (n : Nat) : ∀ {vs : List V} {ds : List PyData}, DpAll K H vs ds → DpAll K H (vs.drop n) (ds.drop n) := by
  induction n with
  | zero => intro vs ds h; exact h
  | succ n ih =>
    intro vs ds h
    cases h with
    | nil => exact .nil
    | cons a b => exact ih b
theorem DpAll.rev {K : PySem.W.Frag} {H : Hp} : ∀ {vs : List V} {ds : List PyData}, DpAll K H vs ds → DpAll K H vs.reverse ds.reverse
  | _, _, .nil => .nil
  | _, _, .cons a b => by
    rw [List.reverse_cons, List.reverse_cons]
    exact DpAll.snoc a (DpAll.rev b)
theorem dpAll_ints {K : PySem.W.Frag} {H : Hp} : ∀ ns : List Int, DpAll K H (ns.map V.int) (ns.map PyData.int)
  | [] => .nil
  | n :: ns => .cons (.int n) (dpAll_ints ns)

/-! ### repr of data -/
/-- what repr sees at a value: data of lists and tuples, or a dict of int keys whose values are data without lists -/
def Rp (K : PySem.W.Frag) (H : Hp) (x : V) (d : PyData) : Prop :=
  Dp K H x d ∨ ∃ (a : Addr) (kvs : List (Key × V)) (es : List (Int × PyData)), x = .ref a ∧ H a = some (.dK kvs) ∧ kvs.map (·.1) = es.map (fun e => Sum.inl e.1) ∧
    DpAll K H (kvs.map (·.2)) (es.map (·.2)) ∧ flatDs (es.map (·.2)) = true ∧ d = .dict (es.map fun e => (.int e.1, e.2))
mutual
/-- short leaves -/
def okD : PyData → Bool
  | .int i => decide (i.natAbs < 10 ^ 12)
  | .str x => PyData.leavesShort 13 (.str x)
  | .list xs => okDs xs
  | .tuple xs => okDs xs
  | .dict kvs => okDk kvs
  | _ => true
def okDs : List PyData → Bool
  | [] => true
  | x :: xs => okD x && okDs xs
def okDk : List (PyData × PyData) → Bool
  | [] => true
  | (k, v) :: r => okD k && okD v && okDk r
end
mutual
theorem okD_show : ∀ d : PyData, okD d = true → d.showable = true ∧ d.leavesShort 13 = true
  | .none, _ => by constructor <;> first | rfl | decide +kernel | simp [PyData.showable, PyData.leavesShort]
  | .bool b, _ => by cases b <;> constructor <;> first | rfl | decide +kernel
  | .int i, h => by
    have h' : i.natAbs < 10 ^ 12 := by simpa [okD] using h
    refine ⟨?_, ?_⟩
    · have : i.natAbs.log2 < 1920 := by
        by_cases z : i.natAbs = 0
        · rw [z]; decide
        · refine Nat.lt_of_lt_of_le ((Nat.log2_lt z).mpr (show i.natAbs < 2 ^ 64 from Nat.lt_of_lt_of_le h' (by decide))) (by decide)
      simpa [PyData.showable] using this
    · have := PyData.shown_int_le h'
      simpa [PyData.leavesShort] using this
  | .str x, h => by
    exact ⟨by simp [PyData.showable], by simpa only [okD] using h⟩
  | .list xs, h => by
    have := okDs_show xs (by simpa [okD] using h)
    exact ⟨by simpa [PyData.showable] using this.1, by simpa [PyData.leavesShort] using this.2⟩
  | .tuple xs, h => by
    have := okDs_show xs (by simpa [okD] using h)
    exact ⟨by simpa [PyData.showable] using this.1, by simpa [PyData.leavesShort] using this.2⟩
  | .dict kvs, h => by
    have := okDk_show kvs (by simpa [okD] using h)
    exact ⟨by simpa [PyData.showable] using this.1, by simpa [PyData.leavesShort] using this.2⟩
theorem okDs_show : ∀ xs : List PyData, okDs xs = true → PyData.showableAll xs = true ∧ PyData.leavesShortAll 13 xs = true
  | [], _ => ⟨by simp [PyData.showableAll], by simp [PyData.leavesShortAll]⟩
  | x :: xs, h => by
    have h' : okD x = true ∧ okDs xs = true := by simpa [okDs] using h
    have a := okD_show x h'.1
    have b := okDs_show xs h'.2
    exact ⟨by simp [PyData.showableAll, a.1, b.1], by simp [PyData.leavesShortAll, a.2, b.2]⟩
theorem okDk_show : ∀ xs : List (PyData × PyData), okDk xs = true → PyData.showableKv xs = true ∧ PyData.leavesShortKv 13 xs = true
  | [], _ => ⟨by simp [PyData.showableKv], by simp [PyData.leavesShortKv]⟩
  | (k, v) :: xs, h => by
    have h' : (okD k = true ∧ okD v = true) ∧ okDk xs = true := by simpa [okDk] using h
    have a := okD_show k h'.1.1
    have b := okD_show v h'.1.2
    have c := okDk_show xs h'.2
    exact ⟨by simp [PyData.showableKv, a.1, b.1, c.1], by simp [PyData.leavesShortKv, a.2, b.2, c.2]⟩
end
mutual
theorem no_as {h : Heap} : ∀ (d : PyData) (u : Value) (as : List Addr), flatD d = true → Reads h u d as → as = []
  | .none, _, _, _, r => by cases r; rfl
  | .bool _, _, _, _, r => by cases r; rfl
  | .int _, _, _, _, r => by cases r; rfl
  | .str _, _, _, _, r => by cases r; rfl
  | .list _, _, _, f, _ => by simp [flatD] at f
  | .dict _, _, _, f, _ => by simp [flatD] at f
  | .tuple ds, _, _, f, r => by
    cases r with
    | tuple _ _ _ ha => exact no_ass ds _ _ (by simpa [flatD] using f) ha
theorem no_ass {h : Heap} : ∀ (ds : List PyData) (us : List Value) (as : List Addr), flatDs ds = true → ReadsAll h us ds as → as = []
  | [], _, _, _, r => by cases r; rfl
  | d :: ds, _, _, f, r => by
    have f' : flatD d = true ∧ flatDs ds = true := by simpa [flatDs] using f
    cases r with
    | cons r1 r2 => rw [no_as d _ _ f'.1 r1, no_ass ds _ _ f'.2 r2]; rfl
end
mutual
theorem dp_nodict {K : PySem.W.Frag} {H : Hp} : ∀ (d : PyData) (v : V), Dp K H v d → d.hasDict = false
  | .none, _, _ => by simp [PyData.hasDict]
  | .bool _, _, _ => by simp [PyData.hasDict]
  | .int _, _, _ => by simp [PyData.hasDict]
  | .str _, _, _ => by simp [PyData.hasDict]
  | .dict _, _, h => by cases h
  | .list ds, _, h => by
    cases h with
    | lst _ ha => simpa [PyData.hasDict] using dps_nodict ds _ ha
  | .tuple ds, _, h => by
    cases h with
    | tup _ ha => simpa [PyData.hasDict] using dps_nodict ds _ ha
theorem dps_nodict {K : PySem.W.Frag} {H : Hp} : ∀ (ds : List PyData) (vs : List V), DpAll K H vs ds → PyData.hasDictAll ds = false
  | [], _, _ => by simp [PyData.hasDictAll]
  | d :: ds, _, h => by
    cases h with
    | cons h1 h2 => simp [PyData.hasDictAll, dp_nodict d _ h1, dps_nodict ds _ h2]
end
theorem flatDs_ints : ∀ ks : List Int, flatDs (ks.map PyData.int) = true
  | [] => rfl
  | k :: ks => by simp [flatDs, flatD, flatDs_ints ks]
section
variable {X : Cx}
theorem dict_keys {prog : Program} {w : World} {h : Heap} : ∀ (es : List (Int × PyData)) (kvs : List (Key × V)) (l : List DictEntry) (vs : List (Key × Value)), kvs.map (·.1) = es.map (fun e => Sum.inl e.1) → KV kvs vs → Pairs (mixKind prog w) l vs →
    ReadsAll h (l.map (·.key)) (es.map fun e => PyData.int e.1) [] ∧ Vals (kvs.map (·.2)) (l.map (·.val))
  | [], kvs, l, vs, hk, r, p => by
    cases kvs with
    | cons a b => simp at hk
    | nil =>
      cases r
      cases p
      exact ⟨.nil, .nil⟩
  | e :: es, kvs, l, vs, hk, r, p => by
    cases kvs with
    | nil => simp at hk
    | cons a b =>
      simp only [List.map_cons, List.cons.injEq] at hk
      cases r with
      | @cons _ v _ vs' r1 r2 =>
        cases p with
        | @cons en _ l' _ p1 p2 p3 =>
          obtain ⟨q1, q2⟩ := dict_keys es b l' vs' hk.2 r2 p3
          have p1' : keyIs v.1 en.key = true := p1
          rw [← r1.1, hk.1] at p1'
          obtain ⟨t, et⟩ := Value.isInt_shape (k := e.1) (v := en.key) p1'
          refine ⟨?_, .cons ?_ q2⟩
          · rw [List.map_cons, List.map_cons, et]
            exact ReadsAll.cons (as := []) (bs := []) (Reads.int _ _) q1
          · show RelV a.2 en.val
            rw [p2]
            exact r1.2
def rRepr (K : PySem.W.Frag) : List V → Hp → VK → Prop := fun xs H Q => ∃ x d, xs = [x] ∧ Rp K H x d ∧ okD d = true ∧ d.depth ≤ 60 ∧ d.weight ≤ 2 ^ 20 ∧ Q (.str d.shown) H
theorem call_reprD (hg : X.A.guards = some []) (hu : X.A.units + 64 < cLine) : CallR X (.builtin "repr") (rRepr X.K) := by
  intro pins s σ H xs us Q I r h
  obtain ⟨x, d, rfl, hd, ok, hdep, hw, q⟩ := h
  obtain ⟨u, rfl, rx⟩ := vals1 r
  obtain ⟨hsh, hls⟩ := okD_show d ok
  have hsz : d.shown.length ≤ sizeLine := PyData.shown_fits (by decide) (by decide) hls hw
  have fin : ∀ (a : Addr) (as : List Addr), u = .ref a → Reads s.heap u d as → (d.hasDict = true → sysModules ∉ as) → wpAny (model X.prog X.w) X.A (call (.builtin "repr") [u]) (EP X pins σ Q) X.xe s := fun a as e rd no => by
    subst e
    exact repr_of_reads' rd hsh no hg (by omega) (fun _ _ e => e) (fun h' u tk k => ⟨.str _, H, I.kept k, ⟨_, rfl⟩, q⟩) hsz
  rcases hd with hd | ⟨a, kvs, es, rfl, ha, hk, hv, hf, rfl⟩
  · obtain ⟨as, rd⟩ := Dp.reads I d x u hd rx
    cases hd with
    | non => cases rx; exact P.repr_of_none ⟨.str _, H, I.tok _, ⟨_, rfl⟩, q⟩
    | bl b => cases rx; exact P.repr_of_bool ⟨.str _, H, I.tok _, ⟨_, rfl⟩, by cases b <;> exact q⟩
    | int i =>
      obtain ⟨t, rfl⟩ := rx
      exact P.repr_of_int (by simpa [PyData.showable] using hsh) ⟨.str _, H, I.tok _, ⟨_, rfl⟩, by simpa [PyData.shown] using q⟩
    | str z =>
      obtain ⟨t, rfl⟩ := rx
      exact P.repr_of_str ⟨.str _, H, I.tok _, ⟨_, rfl⟩, by simpa [PyData.shown] using q⟩ (by simpa [PyData.shown] using hsz)
    | lst hs ha =>
      have nd := dp_nodict _ _ (Dp.lst hs ha)
      cases rx
      exact fin _ as rfl rd fun z => by rw [nd] at z; cases z
    | tup hs ha =>
      have nd := dp_nodict _ _ (Dp.tup hs ha)
      cases rx
      exact fin _ as rfl rd fun z => by rw [nd] at z; cases z
  · cases rx
    obtain ⟨_, hsys, vs, rv, ob, dl, ep, e1, e2, e3, _, e5, _⟩ := (show kvs.length ≤ sizeLine ∧ (a == sysModules) = false ∧ ∃ vs, KV kvs vs ∧ s.heap.DictOf (mixKind X.prog X.w) a vs from dk_of I.hok ha)
    obtain ⟨q1, q2⟩ := dict_keys es kvs dl.toList vs hk rv e5
    obtain ⟨bs, q3⟩ := Dp.readsAll I _ _ _ hv q2
    obtain rfl := no_ass _ _ _ hf q3
    have rd : Reads s.heap (.ref a) (.dict (es.map fun e => (PyData.int e.1, e.2))) (a :: [] ++ []) :=
      .dict e1 e2.1 e3 (by rw [List.map_map]; exact q1) (by rw [List.map_map]; exact q3)
    exact fin a _ rfl rd fun _ m => by
      have : sysModules = a := by simpa using m
      rw [← this] at hsys
      simp at hsys
end
end Cm

/-! a law's call whose body may ask repr: nothing is under repr there -/
namespace Cm
open PySem L2 PySem.Spec PyProof.Rows
section
variable {P : Program} {w : World} {K : PySem.W.Frag} {mg : Str → Option Value} {base : Heap}
/-- the promise of the law's def, where no repr is under way -/
def LawAt (P : Program) (w : World) (K : PySem.W.Frag) (mg : Str → Option Value) (base : Heap) (k : Nat) (f : Addr) (fd : FuncData) (ps : List Str) (sp : Sp) : Prop :=
  ∀ (A : Around) (outer : List Env) (s : Shared) (H : Hp) (args : Args) (us : List Value) (vs : List V) (Q : VK) (E : XK),
    A.guards = some [] → Room k A → Env0 P w K mg base A outer s H → BindsTo s fd args (ps.zip us) → Vals vs us → sp vs H Q E →
      codeAny (model P w) A (.call (.ref f) args) (CR CX0 outer P w H s Q E) s
theorem lawAt_of {x : Str} {st : Stmt} {f : Addr} {fd : FuncData} {N ps : List Str} {k : Nat} {sp : Sp} (F : Fun K x x st f fd) (S : FnScope N ps (defScope st))
    (len : ∀ vs H Q E, sp vs H Q E → vs.length = ps.length)
    (hb : ∀ (cdv : Value) (A : Around) (outer : List Env) (s : Shared) (H : Hp) (vs : List V) (Q : VK) (E : XK), A.guards = some [] →
      Room k (A.deeper (envOfC x (defScope st) s.heap.objs.size f cdv)) → sp vs H Q E →
      ∃ t, PSs (cxOf CX0 P w K mg base N x (defScope st) f cdv A outer s H E).nox (defBody st) t ∧ t { nx := fun _ H' => Q .non H', rt := Q } (start N vs) H) :
    LawAt P w K mg base (k + 1) f fd ps sp := by
  intro A outer s H args us vs Q E hg hr e0 hbind rv hs
  obtain ⟨oc, od, kV, doc, pm, an, cdv, ct, osl, rfl, lk, hcd⟩ := F.ex
  have keeps : ∀ b o, base.get? b = some o → s.heap.get? b = some o := fun b o e => (e0.bs b o e).1
  have KX : K.In s.heap := e0.mod.kin.keeps keeps
  refine codeAny_call_function hr.depth (KX _ _ lk) rfl S.co S.gen rfl (PySem.W.codeRec_of KX hcd) (hbind _ _ _ _ ?_)
  refine wpAny_newFunctionEnv_cells S.kind (fun z hz => ?_) fun env he s1 xc => ?_
  · rcases S.par z.1 (List.of_mem_zip (show (z.1, z.2) ∈ ps.zip us from hz)).1 with q | q
    · exact Or.inl q
    · exact Or.inr ⟨q, PySem.W.cellsFrom_some _ _ _ (Or.inl q)⟩
  · subst he
    refine ⟨(e0.mod.nolimit.keeps keeps).keeps xc.toInCall.keep, codeAny_func ?_⟩
    obtain ⟨t, ht, hq⟩ := hb cdv A outer s H vs Q E hg (hr.deeper _) hs
    have I := inv_start (E := E) (CX := CX0) S hr.hd e0 (len _ _ _ _ hs) rv xc
    refine wpAny_mono (ht.nox.run [] s1 (start N vs) H _ I hq) (fun fl s' hz => ?_) fun e s' hz => hz
    cases fl with
    | ret u =>
      obtain ⟨v, _, H', J, r, q⟩ := hz
      exact ⟨v, H', J.os, J.bare, J.base, J.hok, r, q⟩
    | next =>
      obtain ⟨_, H', J, q⟩ := hz
      exact ⟨V.non, H', J.os, J.bare, J.base, J.hok, rfl, q⟩
    | brk =>
      obtain ⟨_, _, _, q⟩ := hz
      exact q.elim
    | cont =>
      obtain ⟨_, _, _, q⟩ := hz
      exact q.elim
end
/-- the script tracked at a: known to the object, or one of the module's own -/
def scriptH (a : Addr) (o : Obj) (ns : List Int) : Hp := fun b => if b = a then some (.frz o (.lst (ns.map V.int))) else Option.none
theorem law_goes {P : Program} {w : World} {K : PySem.W.Frag} {mg mb : Str → Option Value} {k : Nat} {fa a : Addr} {fd : FuncData} {x : Str} {sp : Sp} {s₁ : Shared} {vs : List Value} {ns : List Int}
    (KX : K.In s₁.heap) (hns : s₁.heap.Ns mainGlobals mg) (hb : s₁.heap.Ns builtinsNs mb)
    (hbb : ∀ x : Str, x ≠ "__name__" → mb x = bootBuiltins x) (hlim : s₁.heap.NoLimit) (hg : s₁.gens = #[])
    (ha : s₁.heap.get? a = some { cls := .type "list", data := .seq vs.toArray }) (hi : IntsAre vs ns) (hl : ns.length ≤ sizeLine) (hr : Room k callerA)
    (F : ∀ b : Heap, K.In b → b.Ns mainGlobals mg → LawAt P w K mg b k fa fd [x] sp)
    (hbind : ∀ (s : Shared) (u : Value), BindsTo s fd ⟨[u], []⟩ [(x, u)])
    (hsp : ∀ H : Hp, Only H → SqL K H a (ns.map V.int) → sp [.ref a] H (fun v _ => v = .bl true) fun _ _ _ => False) :
    codeAny (model P w) callerA (.call (.ref fa) ⟨[.ref a], []⟩)
      (fun r s' => r = .ok (.ret (.bool true)) ∧ OldK s₁.heap s'.heap ∧ s'.os = s₁.os ∧ AllBare s'.gens) s₁ := by
  have rv := vals_ints hi
  have main : ∀ H : Hp, Only H → SqL K H a (ns.map V.int) → HOk P w H s₁.heap → (∀ b, H b ≠ Option.none → b = a ∧ K.lookup a = Option.none) →
      codeAny (model P w) callerA (.call (.ref fa) ⟨[.ref a], []⟩)
        (fun r s' => r = .ok (.ret (.bool true)) ∧ OldK s₁.heap s'.heap ∧ s'.os = s₁.os ∧ AllBare s'.gens) s₁ := by
    intro H hO hS hok hA
    have free_ns : ∀ {b : Addr} {o : Obj} {es : Array DictEntry} {ep : Nat}, s₁.heap.get? b = some o → o.data = .dict es ep → H b = Option.none := fun {b o es ep} e d => by
      by_cases q : H b = Option.none
      · exact q
      · obtain ⟨rfl, _⟩ := hA b q
        rw [ha] at e
        cases e
        cases d
    have ns_of : ∀ {b : Addr} {m : Str → Option Value}, s₁.heap.Ns b m → (hidT s₁.heap H).Ns b m := fun h => by
      obtain ⟨o, es, ep, e, d, r⟩ := h
      exact ⟨o, es, ep, hidT_get e (free_ns e d), d, r⟩
    have kin : K.In (hidT s₁.heap H) := fun b o e => hidT_get (KX b o e) (by
      by_cases q : H b = Option.none
      · exact q
      · obtain ⟨rfl, q2⟩ := hA b q
        rw [q2] at e
        cases e)
    obtain ⟨mc, l1, l2⟩ := hlim
    have e0 : Env0 P w K mg (hidT s₁.heap H) callerA [] s₁ H :=
      { frames := rfl, mod := ⟨kin, ns_of hns, ⟨mb, ns_of hb, hbb⟩, ⟨mc, ns_of l1, l2⟩⟩, bs := fun b o e => of_hidT e, bsz := Nat.le_of_eq (hidT_size _ _),
        funs := trivial, frf := fun b z => absurd (show b ∈ ([] : List Addr) from z) (by simp), hok := hok, bare := .of_eq hg }
    have run := F _ kin (ns_of hns) callerA [] s₁ H ⟨[.ref a], []⟩ [.ref a] [.ref a] _ _ rfl hr e0 (hbind s₁ (.ref a)) (.cons rfl .nil) (hsp H hO hS)
    refine codeAny_mono run fun r s' h => ?_
    rcases r with e | fl
    · exact False.elim h
    · cases fl with
      | ret u =>
        obtain ⟨v, H', os, bare, un, hok', r', q⟩ := h
        have q' : v = .bl true := q
        subst q'
        have eu : u = Value.bool true := r'
        subst eu
        refine ⟨rfl, OldK.of_keep fun b o e => ?_, os, bare⟩
        by_cases q : H b = Option.none
        · exact un.keep b o e q (fun z => absurd (show b ∈ ([] : List Addr) from z) (by simp)) (by simp)
        · rcases hO b with z | ⟨ob, xs, z⟩
          · exact absurd z q
          · have e1 := (hok b _ z).1
            have e2 := (hok' b _ (un.frzs b ob _ z)).1
            rw [e] at e1
            cases e1
            exact e2
      | next => exact False.elim h
      | brk => exact False.elim h
      | cont => exact False.elim h
  by_cases hk : K.lookup a = Option.none
  · refine main (scriptH a { cls := .type "list", data := .seq vs.toArray } ns) (fun b => ?_) (.inl (.inr ⟨_, if_pos rfl⟩)) (fun b u z => ?_) fun b z => ?_
    · by_cases q : b = a
      · exact .inr ⟨_, _, if_pos q⟩
      · exact .inl (if_neg q)
    · unfold scriptH at z
      by_cases q : b = a
      · rw [if_pos q] at z
        cases z
        subst q
        exact ⟨ha, by rw [List.length_map]; exact hl, vs, _, rv, ha⟩
      · rw [if_neg q] at z
        cases z
    · by_cases q : b = a
      · exact ⟨q, hk⟩
      · exact absurd (if_neg q) z
  · obtain ⟨o, ho⟩ : ∃ o, K.lookup a = some o := by
      cases e : K.lookup a with
      | none => exact absurd e hk
      | some o => exact ⟨o, rfl⟩
    have e := KX a o ho
    rw [ha] at e
    cases e
    refine main (fun _ => Option.none) (fun _ => .inl rfl) ?_ (fun b u z => by cases z) fun b z => absurd rfl z
    exact .inr ⟨_, vs.toArray, _, ho, rfl, rfl, rfl, by rw [List.size_toArray, hi.length]; exact hl, by simpa using rv⟩
theorem walk_law {l : PySem.W.OpenLaw} {n k : Nat} {q : Program} {loose : List Str} {XP : (Str → Option Value) → Heap → Prop} {YP : World → Heap → Prop} {d : DefRec} {K : Params → PySem.W.Frag} {sp : PySem.W.Frag → Sp} {x : Str}
    (hn : l.most = some n) (hn2 : n ≤ sizeLine) (hdf : d.params.defaults = []) (hr : Room k callerA)
    (hY : ∀ (w : World) (h : Heap), YP w h → (K w.params).In h)
    (F : ∀ (w : World) (mg : Str → Option Value) (fa : Addr) (h : Heap), (K w.params).In h → h.Ns mainGlobals mg → mg d.name = some (.ref fa) →
      ∃ fd : FuncData, (∀ (s : Shared) (u : Value), BindsTo s fd ⟨[u], []⟩ [(x, u)]) ∧
        ∀ b : Heap, (K w.params).In b → b.Ns mainGlobals mg → LawAt l.prog w (K w.params) mg b k fa fd [x] (sp (K w.params)))
    (hsp : ∀ (K : PySem.W.Frag) (H : Hp) (a : Addr) (ns : List Int), ns.length ≤ n → Only H → SqL K H a (ns.map V.int) → sp K [.ref a] H (fun v _ => v = .bl true) fun _ _ _ => False) :
    PySem.W.WalkO q loose XP YP l.row.toRowW d [] (fun f vs => PySem.call f vs) := by
  refine Att.attach_call hn hdf fun w s₀ s₁ mg mb fa o pm cd doc a vs ns G Y ho hd hcd hmg hobj hints hlen hg => ?_
  obtain ⟨fd, hb, hF⟩ := F w mg fa _ (hY w _ Y) G.T.g hmg
  exact law_goes (hY w _ Y) G.T.g G.T.b G.T.builtins G.T.nolimit hg hobj hints (Nat.le_trans hlen hn2) hr hF hb fun H hO hS => hsp _ H a ns hlen hO hS
end Cm

/-! defs that are called by name; the hand of draws -/
namespace Cm
open PySem L2 PySem.Spec PyProof.Rows
structure Cl (P : Program) (w : World) (K : PySem.W.Frag) (mg : Str → Option Value) (base : Heap) (k : Nat) (x : Str) (sp : Sp) : Prop where
  ex : ∃ (f : Addr) (fd : FuncData) (ps : List Str), FnOk P w K mg base CX0 k f fd ps sp ∧ mg x = some (.ref f) ∧ PySem.W.keepIn K (.ref f) = true ∧ Binds K fd ps []
/-- where a def of the text stands -/
structure At (K : PySem.W.Frag) (mg : Str → Option Value) (x : Str) (st : Stmt) (ps : List Str) : Prop where
  ex : ∃ (f : Addr) (fd : FuncData), Fun K x x st f fd ∧ mg x = some (.ref f) ∧ Binds K fd ps []
section
variable {P : Program} {w : World} {K : PySem.W.Frag} {mg : Str → Option Value} {base : Heap}
theorem cl_of {x : Str} {st : Stmt} {N ps : List Str} {k : Nat} {sp : Sp} (T : At K mg x st ps) (S : FnScope N ps (defScope st))
    (len : ∀ vs H Q E, sp vs H Q E → vs.length = ps.length)
    (hb : ∀ (f : Addr) (cdv : Value) (A : Around) (outer : List Env) (s : Shared) (H : Hp) (vs : List V) (Q : VK) (E : XK),
      Room k (A.deeper (envOfC x (defScope st) s.heap.objs.size f cdv)) → sp vs H Q E →
      ∃ t, PSs (cxOf CX0 P w K mg base N x (defScope st) f cdv A outer s H E).nox (defBody st) t ∧ t { nx := fun _ H' => Q .non H', rt := Q } (start N vs) H) :
    Cl P w K mg base (k + 1) x sp := by
  obtain ⟨f, fd, F, hm, b⟩ := T.ex
  exact ⟨f, fd, ps, F.ok S len (hb f), hm, F.kp, b⟩
end
section
variable {X : Cx} {j k : Nat} {x : Str} {sp : Sp} {e : Expr} {es : List Expr} {t : TA} {p pos : Pos}
theorem pe_c (c : Cl X.prog X.w X.K X.mg X.base k x sp) (hr : Room j X.A) (hk : k ≤ j) (hg : Gl X x) (ha : PA X (e :: es) t)
    (hdb : (x == ("__debug__" : Str)) = false := by decide) (he : starEach (e :: es) X.env = (false, eval e X.env) :: starEach es X.env := by rfl)
    (hpl : (backTo pos (starEach es X.env)).any (·.1) = false := by rfl) : PE X (.Call (.Name x p) (e :: es) [] pos) (tCall sp [] E0 t) := by
  obtain ⟨f, fd, ps, F, hm, kp, b⟩ := c.ex
  exact pe_call F (hr.mono hk) hg hm kp b .nil pass0 ha hdb he hpl
end

theorem map_at {α β : Type} {f : α → β} {xs : List α} {i : Nat} {y : β} (h : (xs.map f)[i]? = some y) : ∃ x, xs[i]? = some x ∧ y = f x := by
  rw [List.getElem?_map] at h
  obtain ⟨x, a, b⟩ := Option.map_eq_some_iff.mp h
  exact ⟨x, a, b.symm⟩

/-! ### a word between a statement and what follows it -/
def tMid (t u : TS) : TS := fun D σ H => ∃ M : L2.St → Hp → Prop, t { D with nx := M } σ H ∧ ∀ σ' H', M σ' H' → u D σ' H'
theorem pss_mid {X : Cx} {st : Stmt} {rest : List Stmt} {t u : TS} (h1 : PS X st t) (h2 : PSs X rest u) : PSs X (st :: rest) (tMid t u) :=
  ⟨fun pins s σ H D I h => by
    obtain ⟨M, hm, hu⟩ := h
    refine wpAny_execs_cons (thn (h1.run pins s σ H { D with nx := M } I hm) fun fl s1 q => ?_)
    cases fl with
    | next =>
      obtain ⟨σ', H', I', q⟩ := q
      exact h2.run pins s1 σ' H' D I' (hu σ' H' q)
    | ret v => exact q
    | brk => exact q
    | cont => exact q⟩

/-! ### the hand of draws -/
/-- a hand stands at h: the cells, how many were taken, a great cell that is drawn from, a sum -/
def Hand (H : Hp) (h c : Addr) : Prop := ∃ (cells : List Int) (i b t : Int), H h = some (.lst [.ref c, .int i, .int b, .int t]) ∧ H c = some (.lst (cells.map V.int)) ∧ c ≠ h ∧ 0 ≤ i ∧ cells.length ≤ 63
theorem Hand.lst {H : Hp} {h c : Addr} (x : Hand H h c) : ∃ xs, H h = some (.lst xs) := let ⟨_, _, _, _, e, _⟩ := x; ⟨_, e⟩
theorem Hand.same {H H' : Hp} {h c : Addr} (x : Hand H h c) (s : Same H H') : Hand H' h c := by
  obtain ⟨cells, i, b, t, e1, e2, n, z⟩ := x
  exact ⟨cells, i, b, t, s _ _ e1, s _ _ e2, n, z⟩
/-- the hand alone is changed -/
abbrev Kh (h : Addr) : Hp → Hp → Prop := Kp (fun a => a = h)
theorem Hand.kh {H H' : Hp} {h c : Addr} (x : Hand H h c) (s : Same H H') : Kh h H H' := .of_same (fun a m => by subst m; exact x.lst) s
theorem Hand.kr {H : Hp} {h c : Addr} (x : Hand H h c) : Kh h H H := x.kh (Same.refl H)

def spMix : Sp := fun vs H Q _ => ∃ a b : Int, vs = [.int a, .int b] ∧ ∀ n : Int, Q (.int n) H
def spHand (K : PySem.W.Frag) : Sp := fun vs H Q _ => ∃ (a : Addr) (ns : List Int), vs = [.ref a] ∧ SqL K H a (ns.map V.int) ∧ ns.length ≤ 63 ∧ ∀ h c H', Same H H' → H h = Option.none → H c = Option.none → Hand H' h c → Q (.ref h) H'
def spDraw : Sp := fun vs H Q _ => ∃ (h c : Addr) (m : Int), vs = [.ref h, .int m] ∧ Hand H h c ∧ 0 < m ∧ m < 2 ^ 100 ∧ ∀ (n : Int) (H' : Hp), 0 ≤ n → n < m → Kh h H H' → Hand H' h c → Q (.int n) H'
/-- pick out of a list or tuple -/
def spPick (K : PySem.W.Frag) : Sp := fun vs H Q _ => ∃ (h c a : Addr) (xs : List V), vs = [.ref h, .ref a] ∧ Hand H h c ∧ (SqL K H a xs ∧ a ≠ h ∨ SqT K H a xs) ∧ xs ≠ [] ∧ xs.length ≤ 1000 ∧
  ∀ (v : V) (H' : Hp), v ∈ xs → Kh h H H' → Hand H' h c → Q v H'
end Cm

/-! further rules: a tuple read backwards, enumerate over a tuple, sorted(d.keys()) -/
namespace Cm
open PySem L2 PySem.Spec PyProof.Rows
section
variable {prog : Program} {w : World} {A : Around} {E : Value → Shared → Prop} {s : Shared}
theorem adjust_back (n : Nat) : Builtin.Slice.sliceAdjust none none (-1) (n : Int) = ((n : Int) - 1, -1) := by
  unfold Builtin.Slice.sliceAdjust
  simp
theorem places_back (n : Nat) : Builtin.Slice.slicePlaces ((n : Int) - 1) (-1) (-1) = n := by
  unfold Builtin.Slice.slicePlaces
  simp
  try omega
theorem applied_back {sl : Addr} {vs : Value} {n : Nat} {Q : Int × Int × Nat → Shared → Prop} (hs : s.heap.IsSliceOf sl .none .none vs) (ps : IsPart vs (some (-1)))
    (h : Q ((n : Int) - 1, -1, n) s) : wpAny (model prog w) A (Builtin.Slice.sliceApplied (.ref sl) (pure (n : Int))) Q E s := by
  obtain ⟨os, hos, hcs, hds⟩ := id hs
  unfold Builtin.Slice.sliceApplied Builtin.Slice.sliceFields
  refine wpAny_bind (wpAny_bind (wpAny_field hos hds (x := .none) rfl (wpAny_bind (wpAny_field hos hds (x := .none) rfl (wpAny_bind (wpAny_field hos hds (x := vs) rfl (wpAny_pure ?_)))))))
  refine wpAny_bind (HT.slicePart_ ps ?_)
  show wpAny _ _ (if ((-1 : Int) == 0) = true then _ else _) _ _ s
  rw [if_neg (by decide)]
  refine wpAny_bind (slicePart_none (wpAny_bind (slicePart_none (wpAny_bind (wpAny_pure ?_)))))
  show wpAny _ _ (match Builtin.Slice.sliceAdjust none none (-1) (n : Int) with | (lo, hi) => pure (lo, (-1 : Int), Builtin.Slice.slicePlaces lo hi (-1))) _ _ s
  rw [adjust_back]
  show wpAny _ _ (pure ((n : Int) - 1, (-1 : Int), Builtin.Slice.slicePlaces ((n : Int) - 1) (-1) (-1))) _ _ s
  rw [places_back]
  exact wpAny_pure h
theorem filterMap_eqs {α β : Type} {f g : α → Option β} : ∀ l : List α, (∀ x ∈ l, f x = g x) → l.filterMap f = l.filterMap g
  | [], _ => rfl
  | x :: l, h => by
    rw [List.filterMap_cons, List.filterMap_cons, h x List.mem_cons_self, filterMap_eqs l fun y hy => h y (List.mem_cons_of_mem _ hy)]
theorem pick_all (m : List Value) : (List.range m.length).filterMap (fun k => m[k]?) = m := by
  induction m with
  | nil => rfl
  | cons a m ih =>
    rw [List.length_cons, List.range_succ_eq_map, List.filterMap_cons]
    simp only [List.getElem?_cons_zero, List.filterMap_map]
    refine congrArg _ (Eq.trans (filterMap_eqs _ fun k _ => ?_) ih)
    simp
theorem pick_back (xs : Array Value) : ((List.range xs.size).filterMap fun (k : Nat) => xs[((xs.size : Int) - 1 + (k : Int) * -1).toNat]?).toArray = xs.toList.reverse.toArray := by
  have h1 : (List.range xs.size).filterMap (fun (k : Nat) => xs[((xs.size : Int) - 1 + (k : Int) * -1).toNat]?) = (List.range xs.size).filterMap (fun k => xs.toList.reverse[k]?) := by
    refine filterMap_eqs _ fun k hk => ?_
    have hk' : k < xs.size := List.mem_range.mp hk
    have e2 : ((xs.size : Int) - 1 + (k : Int) * -1).toNat = xs.size - 1 - k := by omega
    rw [e2, List.getElem?_reverse (by simpa using hk'), Array.getElem?_toList]
    simp
  have h3 := pick_all xs.toList.reverse
  rw [List.length_reverse, Array.length_toList] at h3
  rw [h1, h3]
theorem getItem_tuple_back {t sl : Addr} {items : Array Value} {vs : Value} {Q : Value → Shared → Prop} (ht : IsTup s.heap t items) (hs : s.heap.IsSliceOf sl .none .none vs) (ps : IsPart vs (some (-1)))
    (h : Q (.ref s.heap.objs.size) { s with heap := s.heap.push { cls := .type "tuple", data := .seq items.toList.reverse.toArray } })
    (hsz : items.size ≤ sizeLine) : wpAny (model prog w) A (getItem (.ref t) (.ref sl)) Q E s := by
  have hok : sizeOk (.seq items.toList.reverse.toArray) := by
    show items.toList.reverse.toArray.size ≤ sizeLine
    rw [List.size_toArray, List.length_reverse, Array.length_toList]
    exact hsz
  obtain ⟨os, hos, hcs, hds⟩ := id hs
  have hTs : s.TypeIs (.ref sl) "slice" := ⟨os, hos, hcs⟩
  unfold getItem
  try with_reducible refine wpAny_holding ?_
  first | refine wpAny_bind (wpAny_pure ?_) | skip
  refine wpAny_bind (wpAny_sequenceKey ht.typeIs (by decide) ?_)
  refine wpAny_bind (wpAny_callSpecial?_slot (name := Str.ofString "__getitem__") ht.typeIs slot_tuple_getitem (wpAny_call_entry slot_tuple_getitem ht.typeIs PyProof.Rows.entry_tuple_getitem ?_ (PyProof.Rows.args_tuple_getitem _ _)))
  show wpAny _ _ (Builtin.Tuple.tupleItemsOf (.ref t) >>= _) _ _ s
  refine wpAny_bind (tupleItemsOf_ ht (wpAny_bind (wpAny_typeOf hTs ?_)))
  rw [if_pos (by decide)]
  refine wpAny_bind (applied_back (n := items.size) hs ps ?_)
  show wpAny _ _ (if ((((items.size : Int) - 1) == 0 && (-1 : Int) == 1 && items.size == items.size) = true) then _ else _) _ _ s
  rw [if_neg (by simp), pick_back]
  first
    | exact wpAny_bind (m := Builtin.Tuple.tupleExact _) (wpAny_newObj_type (wpAny_pure ⟨_, rfl, wpAny_pure h⟩) hok)
    | exact wpAny_bind (m := Builtin.Tuple.tupleExact _) (wpAny_newObj_type (wpAny_bind (wpAny_pure (wpAny_pure ⟨_, rfl, wpAny_pure h⟩))) hok)
end
section
variable {X : Cx}
def tRevT (K : PySem.W.Frag) (te : TE) : TE := fun σ H Q => te σ H fun x H1 => ∃ a xs, x = .ref a ∧ SqT K H1 a xs ∧ ∀ p, H1 p = Option.none → Q (.ref p) (upd H1 p (.tup xs.reverse))
theorem pe_revT {e : Expr} {te : TE} {k : Nat} {p1 p2 p3 pos : Pos} (he : PE X e te) : PE X (.Subscript e (.Slice none none (some (.UnaryOp .USub (.Constant (.int 1) k p1) p2)) p3) pos) (tRevT X.K te) := by
  refine ⟨fun pins s σ H Q I h => ?_⟩
  refine Subscript_ (thn (he.run pins s σ H _ I h) fun v s1 hz => ?_)
  obtain ⟨x, H1, I1, r1, a, xs, ex, hx, q⟩ := hz
  subst ex
  cases r1
  have hst : PO X (some (.UnaryOp .USub (.Constant (.int 1) k p1) p2)) (tPart (tUn (rU fun i => .int (-i)) (tC (.int 1)))) := po_some (pe_un un_neg pe_int)
  refine wpAny_Slice (thn (po_none.run pins s1 σ H1 (fun o H2 => o = none ∧ H2 = H1) I1 ⟨rfl, rfl⟩) fun vl s2 hz => ?_)
  obtain ⟨l, H2, I2, pl, el, e2⟩ := hz
  subst el e2
  refine thn (po_none.run pins s2 σ H2 (fun o H3 => o = none ∧ H3 = H2) I2 ⟨rfl, rfl⟩) fun vu s3 hz => ?_
  obtain ⟨u, H3, I3, pu, eu, e3⟩ := hz
  subst eu e3
  refine thn (hst.run pins s3 σ H3 (fun o H4 => o = some (-1) ∧ H4 = H3) I3 ⟨1, rfl, -1, rfl, rfl, rfl⟩) fun vs s4 hz => ?_
  obtain ⟨o, H4, I4, ps, eo, e4⟩ := hz
  subst eo e4
  cases pl
  cases pu
  have I5 : Inv X pins σ H4 { s4 with heap := s4.heap.push { cls := .type "slice", data := .fields #[.none, .none, vs] } } := I4.kept (t' := s4.toks) fun b ob q => Heap.get?_push_of_some _ q
  obtain ⟨its, r, ht, hz⟩ := I5.tuple hx
  have hlen := r.length
  show wpAny (model X.prog X.w) X.A (subscriptTail e (.Slice none none (some (.UnaryOp .USub (.Constant (.int 1) k p1) p2)) p3) (.ref a) (.ref s4.heap.objs.size)) (EP X pins σ Q) X.xe
    { s4 with heap := s4.heap.push { cls := .type "slice", data := .fields #[.none, .none, vs] } }
  refine tail_any (ops := [.ref a, .ref s4.heap.objs.size]) ht.typeIs slot_tuple_getitem.lookup ?_ (by with_unfolding_all rfl)
  refine getItem_tuple_back ht (Heap.IsSliceOf.new _ .none .none vs) ps ?_ (by rw [List.size_toArray]; omega)
  refine ⟨.ref _, _, I5.laid (t' := s4.toks) (o := .tup xs.reverse) (fun b ob q => Heap.get?_push_of_some _ q) (Nat.le_refl _) ?_, rfl, q _ (I5.hok.fresh (Nat.le_refl _))⟩
  exact ⟨by rw [List.length_reverse]; exact hz, its.reverse, r.reverse, IsTup.new _ _⟩
end

/-! ### enumerate over a tuple -/
theorem enum_new1 {v : Value} {o : Obj} {G : Heap → Prop} (B : Begins v o G) :
    Meets (Builtin.«enumerate.__new__» ⟨[.type "enumerate", v], []⟩) (fun _ R s => G s.heap ∧
      R (.ok (.ret (.ref (s.heap.push o).objs.size))) { s with heap := (s.heap.push o).push { cls := .type "enumerate", data := .fields #[.none, .bool false, .ref s.heap.objs.size, rawInt 0, .none, .none] } }) :=
  .of_wp fun prog w A R s h => by
    obtain ⟨hp, g, d, tk, os⟩ := s
    obtain ⟨h1, h2⟩ := h
    have hsub := sub_enumerate
    have it : ∀ {A' : Around} {E : Value → Shared → Prop} {Q : Value → Shared → Prop}, Q (.ref hp.objs.size) ⟨hp.push o, g, d, tk, os⟩ → wpAny (model prog w) A' (pyIter v) Q E ⟨hp, g, d, tk, os⟩ :=
      fun q => B.iter prog w _ _ ⟨hp, g, d, tk, os⟩ _ h1 q
    wp_walk using it
    refine wpAny_stack_any fun st => wpAny_pure ?_
    split
    · rename_i c _ _ _ _ _
      cases (c == Value.type "enumerate") <;> (wp_walk using it; exact ⟨_, rfl, h2⟩)
    · wp_walk using it
      exact ⟨_, rfl, h2⟩
section
variable {prog : Program} {w : World} {A : Around} {E : Value → Shared → Prop} {s : Shared}
theorem call_enum1 {v : Value} {o : Obj} {G : Heap → Prop} {Q : Value → Shared → Prop} (B : Begins v o G) (h1 : G s.heap)
    (h : ∀ h', IsEnum h' (s.heap.objs.size + 1) s.heap.objs.size 0 .none → h'.get? s.heap.objs.size = some o → h'.objs.size = s.heap.objs.size + 2 →
      (∀ b o, s.heap.get? b = some o → h'.get? b = some o) → Q (.ref (s.heap.objs.size + 1)) { s with heap := h' }) :
    wpAny (model prog w) A (call (.type "enumerate") [v]) Q E s := by
  refine callType_new F.called_enumerate (by decide) (F.typeCall_enumerate_1 _) (F.newCall_enumerate_1 _) (fun obj => F.args_object_init_2 obj _) F.entry_enumerate_new (enum_new1 B) ⟨h1, ?_⟩
  have hz : (s.heap.push o).objs.size = s.heap.objs.size + 1 := Heap.size_push ..
  rw [hz]
  have he : IsEnum ((s.heap.push o).push { cls := .type "enumerate", data := .fields #[.none, .bool false, .ref s.heap.objs.size, rawInt 0, .none, .none] }) (s.heap.objs.size + 1) s.heap.objs.size 0 .none := by
    have e := Heap.get?_push_size (s.heap.push o) (o := { cls := .type "enumerate", data := .fields #[.none, .bool false, .ref s.heap.objs.size, rawInt 0, .none, .none] }) rfl
    rw [hz] at e
    exact e
  exact ⟨⟨_, he, rfl⟩, h _ he (Heap.get?_push_of_some _ (Heap.get?_push_size _ B.free)) (by rw [Heap.size_push, hz]) fun b o x => Heap.get?_push_of_some _ (Heap.get?_push_of_some _ x)⟩
end
/-- the tuple at a, each item in a new pair with its number -/
def IteT (K : PySem.W.Frag) (a : Addr) : It :=
  ⟨fun i H => ∃ (xs : List V) (x : V), SqT K H a xs ∧ xs[i]? = some x, fun i H v H' => ∃ T x, v = .ref T ∧ H T = Option.none ∧ H' = upd H T (.tup [.int (i : Nat), x]) ∧ ∀ xs, SqT K H a xs → xs[i]? = some x,
    fun i H => ∃ xs : List V, SqT K H a xs ∧ xs.length ≤ i⟩
theorem turn_enumT {P : Program} {w : World} {K : PySem.W.Frag} {elts : List Expr} {kk : Nat} {tpos : Pos} (a e it : Addr) :
    Turn P w K (.Tuple elts kk tpos) (IteT K a) [e, it] e (fun i h => (∃ old, IsEnum h e it ((i : Nat) : Int) old) ∧ h.IsTupleIter it a i ∧ e ≠ it ∧ a ≠ it ∧ a ≠ e) where
  mem := by simp
  obj := fun i h st b hb => by
    obtain ⟨⟨old, he⟩, ⟨o, ho, hc, hd⟩, _⟩ := st
    rcases (show b = e ∨ b = it by simpa using hb) with z | z
    · rw [z]; exact ⟨_, he, fun v q => nomatch q⟩
    · rw [z]; exact ⟨o, ho, fun v q => by rw [hd] at q; cases q⟩
  keep := fun i h h' st k => let ⟨⟨old, he⟩, hi, hne⟩ := st; ⟨⟨old, k e (by simp) _ he⟩, hi.at fun o q => k it (by simp) o q, hne⟩
  item := by
    intro X hP hw hK hc i pins s σ H E I hf st hg
    subst hP hw hK
    obtain ⟨⟨old, he⟩, hit, hne, hai, hae⟩ := st
    obtain ⟨xs, x, hq, hx⟩ := hg
    obtain ⟨its, rv, p, hz⟩ := I.tuple hq
    obtain ⟨u, hu, ru⟩ := rv.get hx
    have hel : e < s.heap.objs.size := Heap.lt_size he
    have hil : it < s.heap.objs.size := by obtain ⟨_, q, _⟩ := hit; exact Heap.lt_size q
    have hlt : i < its.toArray.size := by
      rw [List.size_toArray]
      exact (List.getElem?_eq_some_iff.mp hu).1
    refine wpAny_pyNext_enum_itemD (Draws.tuple (prog := X.prog) (w := X.w) (A := X.A.in1) (I.ok.hd hc) it a hai its.toArray) he ⟨hit, p⟩ hlt hne (by simp [hne, Ne.symm hae]) fun y h' tk hy ho hst hT hsz hk => ?_
    have ey : y = u := by
      have q : its[i]? = some y := by simpa using hy
      rw [hu] at q
      exact (Option.some.inj q).symm
    subst ey
    refine ⟨_, rfl, wpAny_letOwnedTupleGo_enum (s := { s with heap := h', toks := tk + 1 }) ho fun h'' he' sb => ?_⟩
    have hT2 : h''.get? s.heap.objs.size = some { cls := .type "tuple", data := .seq #[.int i tk, y] } := (sb.2 _ (Nat.ne_of_gt hel)).trans hT
    have new : ObjOk X.prog X.w (upd H s.heap.objs.size (.tup [.int (i : Nat), x])) h'' s.heap.objs.size (.tup [.int (i : Nat), x]) :=
      ⟨by show 2 ≤ sizeLine; decide, [.int i tk, y], .cons ⟨_, rfl⟩ (.cons ru .nil), ⟨_, hT2, rfl, _, rfl⟩⟩
    have I1 : Inv X pins σ (upd H s.heap.objs.size (.tup [.int (i : Nat), x])) { s with heap := h'', toks := tk + 1 } :=
      I.turnedNew (ch := [e, it]) (fun b ob hb q => (sb.2 b (fun z => hb (by simp [z]))).trans (hk b ob (fun z => hb (by simp [z])) (fun z => hb (by simp [z])) q)) hf (Nat.le_refl _) new
    refine ⟨.ref s.heap.objs.size, _, I1, rfl, ⟨_, x, rfl, I.hok.fresh (Nat.le_refl _), rfl, fun ys hy => by rw [I.tuple_inj hy hq]; exact hx⟩, ⟨⟨y, ?_⟩, hst.1.at fun o q => (sb.2 it (Ne.symm hne)).trans q, hne, hai, hae⟩, fun b hb => ?_⟩
    · have e1 : ((i + 1 : Nat) : Int) = (i : Int) + 1 := by omega
      rw [e1]; exact he'
    · have hb' : b < s.heap.objs.size := by
        rcases (show b = e ∨ b = it by simpa using hb) with z | z
        · rw [z]; exact hel
        · rw [z]; exact hil
      rw [upd_ne (Nat.ne_of_lt hb')]
      exact (hf b hb).1
  done := by
    intro X hP hw hK hc i pins s σ H E I hf st hg
    subst hP hw hK
    obtain ⟨⟨old, he⟩, hit, hne, hai, hae⟩ := st
    obtain ⟨xs, hq, hx⟩ := hg
    obtain ⟨its, rv, p, hz⟩ := I.tuple hq
    obtain ⟨f0, f1, f2, f3, f4, f5⟩ := hf it (by simp)
    have hl := rv.length
    have D : Draws X.prog X.w X.A.in1 it [it, a] i (fun _ _ => False) (fun j h => j = i ∧ h.IsTupleIter it a i ∧ h.IsTuple a its.toArray) :=
      { live := fun _ _ st => let ⟨o, ho, _⟩ := st.2.1; ⟨o, ho⟩
        frame := fun _ _ _ st hk => ⟨st.1, st.2.1.at fun o e => hk it (by simp) o e, st.2.2.at fun o e => hk a (by simp) o e⟩
        item := fun j s Q E hj st => absurd hj (by rw [st.1]; exact Nat.lt_irrefl _)
        done := fun s Q E st hE => wpAny_nextOf_tuple_end (I.ok.hd hc) st.2.1 st.2.2 (by simp; omega) hE }
    exact wpAny_pyNext_enum_endD D he ⟨rfl, hit, p⟩ fun h' eb => ⟨rfl, I.turned (t' := s.toks) (fun b o hb q => eb b o hb q) f0 f1 f3 f4 f5⟩
  self := fun A i s Q E st h => let ⟨⟨_, he⟩, _⟩ := st; wpAny_pyIter_enum he h
def iEnumT (K : PySem.W.Frag) (ta : TA) : TI := fun σ H R => ta σ H fun vs H1 => ∃ a xs, vs = [.ref a] ∧ SqT K H1 a xs ∧ R (IteT K a) H1
theorem pi_enumT {X : Cx} {e : Expr} {ta : TA} {p pos tpos : Pos} {elts : List Expr} {kk : Nat} (hg : Gl X "enumerate") (hm : X.mg "enumerate" = none) (ha : PA X [e] ta) (hs : starEach [e] X.env = [(false, eval e X.env)] := by rfl) :
    PI X (.Tuple elts kk tpos) (.Call (.Name "enumerate" p) [e] [] pos) (iEnumT X.K ta) := by
  refine ⟨fun pins s σ H R I h => ?_⟩
  refine Call_ (ld_blt I hg hm boot_enumerate (PyProof.Rows.callWith_type1 (thn (ha.run pos pins s σ H _ I h) fun us s1 hz => ?_) hs rfl))
  obtain ⟨vs, H1, I1, r1, a, xs, ex, hq, q⟩ := hz
  subst ex
  cases r1 with
  | cons r rr =>
    cases rr
    cases r
    obtain ⟨its, rv, p', hz⟩ := I1.tuple hq
    refine call_enum1 (begins_tuple a its.toArray) p' fun h' he hit hsz hk => wpAny_pyIter_enum he ?_
    have hal : a < s1.heap.objs.size := p'.lt
    refine ⟨s1.heap.objs.size + 1, [s1.heap.objs.size + 1, s1.heap.objs.size], _, _, H1, rfl, I1.kept (t' := s1.toks) hk, turn_enumT a (s1.heap.objs.size + 1) s1.heap.objs.size,
      ⟨⟨.none, he⟩, ⟨_, hit, rfl, rfl⟩, Nat.succ_ne_self _, Nat.ne_of_lt hal, Nat.ne_of_lt (Nat.lt_succ_of_lt hal)⟩, fun b hb => ?_, q⟩
    have hle : s1.heap.objs.size ≤ b := by
      rcases (show b = s1.heap.objs.size + 1 ∨ b = s1.heap.objs.size by simpa using hb) with z | z
      · rw [z]; exact Nat.le_add_right _ _
      · rw [z]; exact Nat.le_refl _
    exact I1.fpOk hle (I1.hok.fresh hle)
theorem walk_enumT {K : PySem.W.Frag} {a : Addr} {xs : List V} : Walk (IteT K a) xs.length (fun H => SqT K H a xs) (YPair (fun i => some (.int (i : Nat))) (fun i => xs[i]?)) := by
  refine ⟨fun i _ hi q => ⟨xs, xs[i], q, by simp [hi]⟩, fun _ q => ⟨xs, q, Nat.le_refl _⟩, fun i H v H' _ q y => ?_⟩
  obtain ⟨T, x, h1, h2, h3, h4⟩ := y
  exact ⟨T, .int (i : Nat), x, h1, h2, h3, rfl, h4 xs q⟩
theorem walk_zipT {K : PySem.W.Frag} {a b : Addr} {xs ys : List V} {n : Nat} (hn : n = min xs.length ys.length) : Walk (RZ.ItzT K a b) n (fun H => SqT K H a xs ∧ SqT K H b ys) (YPair (fun i => xs[i]?) (fun i => ys[i]?)) := by
  subst hn
  refine ⟨fun i _ hi q => ?_, fun _ q => ⟨xs, ys, q.1, q.2, by omega⟩, fun i H v H' _ q y => ?_⟩
  · have h1 : i < xs.length := by omega
    have h2 : i < ys.length := by omega
    exact ⟨xs, ys, xs[i], ys[i], q.1, q.2, by simp [h1], by simp [h2]⟩
  · obtain ⟨T, x, z, h1, h2, h3, h4, h5⟩ := y
    exact ⟨T, x, z, h1, h2, h3, h4 xs q.1, h5 ys q.2⟩

/-! ### sorted(d.keys()) of a dict of int keys -/
section
variable {X : Cx}
/-- the view r of the keys of the dict at d -/
def ViewO (r d : Addr) : HO := .ext fun h => PySem.W.KdlKeysView h r d
def tKeys (td : TE) : TE := fun σ H Q => td σ H fun x H1 => ∃ d, x = .ref d ∧ (∃ kvs, H1 d = some (.dK kvs)) ∧ ∀ r, H1 r = Option.none → Q (.ref r) (upd H1 r (ViewO r d))
theorem pe_keys {e : Expr} {td : TE} {apos cpos : Pos} (he : PE X e td) (hbase : attributeBase e "keys" X.env (eval e X.env) = eval e X.env := by rfl) (hline : (apos.endLine == cpos.line) = true := by rfl) :
    PE X (.Call (.Attribute e "keys" apos) [] [] cpos) (tKeys td) := by
  refine ⟨fun pins s σ H Q I h => ?_⟩
  refine wpAny_Call_method (T := "dict") (id := "dict.keys") hbase rfl hline F.plainAttrs_dict F.slot_dict_keys F.type_dict_keys (thn (he.run pins s σ H _ I h) fun u s1 hz => ?_)
  obtain ⟨x, H1, I1, rx, d, ex, ⟨kvs, hd⟩, q⟩ := hz
  subst ex
  obtain rfl : u = Value.ref d := rx
  obtain ⟨z, lo, vs, rel, dd⟩ := dk_of I1.hok hd
  refine ⟨dd.typeIs, dd.mapOf.noDict, ?_⟩
  show wpAny _ _ (callWith cpos (.builtin "dict.keys") [.ref d] [] []) _ X.xe s1
  have fin : EP X pins σ Q (.ref s1.heap.objs.size) { s1 with heap := s1.heap.push { cls := .type "dict_keys", data := .fields #[.ref d] } } := by
    refine ⟨.ref s1.heap.objs.size, upd H1 s1.heap.objs.size (ViewO s1.heap.objs.size d), I1.laid (t' := s1.toks) (fun b u e => Heap.get?_push_of_some _ e) (Nat.le_refl _) ?_, rfl, q _ (I1.hok.fresh (Nat.le_refl _))⟩
    refine ⟨⟨_, Heap.get?_push_size _ rfl, rfl, rfl⟩, ⟨_, Heap.get?_push_size _ rfl⟩, fun h1 h2 a b => ?_⟩
    obtain ⟨o, ho, c⟩ := a
    exact ⟨o, b o ho, c⟩
  exact method_meetsIn F.slot_dict_keys F.entry_dict_keys rfl (PySem.evalArgs_none ⟨rfl, dd.typeIs, F.args_dict_keys_1 _, _, PySem.W.kdl_meets_keys (mixKind X.prog X.w) d lo, ⟨vs, dd⟩, fin⟩)
theorem call_sortedK (hcalm : X.calm = true) : CallR X (.builtin "sorted") (fun xs H Q => ∃ (r d : Addr) (kvs : List (Key × V)) (ks : List Int), xs = [.ref r] ∧ H r = some (ViewO r d) ∧ H d = some (.dK kvs) ∧ kvs.map (·.1) = ks.map Sum.inl ∧ ks.length < 64 ∧
    ∀ (ys : List Int) (p : Addr), ys.Perm ks → ys.Pairwise (· ≤ ·) → H p = Option.none → Q (.ref p) (upd H p (.lst (ys.map V.int)))) := by
  intro pins s σ H xs us Q I rr q
  obtain ⟨r, d, kvs, ks, ex, hr, hd, hks, h64, q⟩ := q
  subst ex
  obtain ⟨u, eu, rx⟩ := vals1 rr
  subst eu
  cases rx
  have hv : PySem.W.KdlKeysView s.heap r d := (I.hok r _ hr).1
  obtain ⟨z, lo, vs, rel, dd⟩ := dk_of I.hok hd
  obtain ⟨ep, hat⟩ := dd.dictAt
  have hkeys : vs.map (·.1) = ks.map Sum.inl := rel.keys.symm.trans hks
  have hl : vs.length = ks.length := by simpa using congrArg List.length hkeys
  have h16 : vs.length ≤ sizeLine := by rw [hl, sizeLine_eq]; omega
  refine Calls.call_function_entry PyProof.Rows.kind_sorted PyProof.Rows.plain_sorted PyProof.Rows.entry_sorted (PyProof.Rows.args_sorted1 _) ?_
  unfold Builtin.«sorted»
  refine wpAny_bind (m := checkCount "sorted" 1 1 _) (wpAny_pure ?_)
  refine wpAny_bind (PySem.W.kdu_collect (A := X.A.in1) (PySem.W.kdl_keys (knd := mixKind X.prog X.w) (r := r) (d := d) (kvs := vs) (ep := ep)) (I.ok.hd hcalm) ⟨hv, hat⟩ h16 fun h' tk acc hk hacc => ?_)
  have hal : acc.toList.length = ks.length := by rw [Array.length_toList, hacc.1, hl]
  have hS : IntsAre acc.toList ks := ints_each hal fun j v e => by
    obtain ⟨k, x, e1, e2⟩ := hacc.2 j v (by rw [← Array.getElem?_toList]; exact e)
    have e3 : (vs.map (·.1))[j]? = some k := by rw [List.getElem?_map, e1]; rfl
    rw [hkeys, List.getElem?_map] at e3
    obtain ⟨y, ey, e4⟩ := Option.map_eq_some_iff.mp e3
    subst e4
    rcases keyIs_shape (show keyIs (Sum.inl y) v = true from e2) with ⟨i, t, ek, ev⟩ | ⟨_, t, ek, ev⟩
    · cases ek
      exact ⟨y, t, ey, ev⟩
    · cases ek
  have I1 : Inv X pins σ H { s with heap := h', toks := tk } := I.kept hk
  refine wpAny_bind (wpAny_newList ?_ (by rw [hal, sizeLine_eq]; omega))
  have hoL : (h'.push (seqObj "list" acc.toList.toArray 0)).get? h'.objs.size = some (seqObj "list" acc.toList.toArray 0) := Heap.get?_push_size _ rfl
  show wpAny _ _ _ _ _ { s with heap := h'.push (seqObj "list" acc.toList.toArray 0), toks := tk }
  refine wpAny_bind (wpAny_holding (wpAny_call_entry PyProof.Rows.slot_list_sort ⟨_, hoL, rfl⟩ PyProof.Rows.entry_list_sort
    (PyProof.Rows.list_sort_tree (s := { s with heap := h'.push (seqObj "list" acc.toList.toArray 0), toks := tk }) hoL hS (by rw [hal]; exact h64) fun out ys g1 g2 g3 => ⟨_, rfl, ?_⟩) (PyProof.Rows.args_list_sort _)))
  obtain ⟨e', he'⟩ := PyProof.Rows.sortedHeap_at (vs := acc.toList) (out := out) hoL
  have hlen : (ys.map V.int).length ≤ sizeLine := by
    rw [List.length_map, g2.length_eq]
    exact Nat.le_trans (Nat.le_of_lt h64) (by decide)
  refine wpAny_pure ⟨_, rfl, .ref h'.objs.size, upd H h'.objs.size (.lst (ys.map V.int)), I1.laid (t' := tk) (fun b u e => ?_) (Nat.le_refl _)
    (show ObjOk X.prog X.w _ _ _ (.lst (ys.map V.int)) from ⟨hlen, out.toList, e', vals_of_ints g1, by rw [Array.toArray_toList]; exact he'⟩), rfl, q ys _ g2 g3 (I1.hok.fresh (Nat.le_refl _))⟩
  have hb : b < h'.objs.size := Heap.lt_size e
  rw [PyProof.Rows.sortedHeap_old (Nat.ne_of_lt hb) (by rw [size_push']; exact Nat.lt_succ_of_lt hb)]
  exact Heap.get?_push_of_some _ e
end
end Cm

/-! a dict of things by births -/
namespace Cm
open PySem L2
/-- a thing: a word, then data without lists -/
def windD (b : Int) : PyData := .tuple [.str "wind", .int (1000 + b), .int (2000 + b)]
def wordD : PyData → Str
  | .tuple (.str x :: _) => x
  | _ => ""
structure Th (b : Int) (d : PyData) : Prop where
  ex : ∃ (wd : Str) (r : List PyData), d = .tuple (.str wd :: r)
  fl : flatD d = true
  ok : okD d = true
  dp : d.depth ≤ 8
  wt : d.weight ≤ 4000
  wn : wordD d = "wind" → d = windD b
/-- the dict at d holds es -/
structure ThAt (K : PySem.W.Frag) (H : Hp) (d : Addr) (es : List (Int × PyData)) (kvs : List (Key × V)) : Prop where
  at_ : H d = some (.dK kvs)
  ks : kvs.map (·.1) = es.map (fun e => Sum.inl e.1)
  vs : DpAll K H (kvs.map (·.2)) (es.map (·.2))
  th : ∀ e ∈ es, Th e.1 e.2
def thg (es : List (Int × PyData)) (b : Int) : PyData := ((es.find? fun e => decide (e.1 = b)).map (·.2)).getD .none
def word (es : List (Int × PyData)) (b : Int) : Str := wordD (thg es b)
theorem th_find {K : PySem.W.Frag} {H : Hp} (b : Int) : ∀ (es : List (Int × PyData)) (kvs : List (Key × V)), kvs.map (·.1) = es.map (fun e => (Sum.inl e.1 : Key)) → DpAll K H (kvs.map (·.2)) (es.map (·.2)) →
    b ∈ es.map (·.1) → ∃ v, valV kvs (Sum.inl b) = some v ∧ Dp K H v (thg es b) ∧ (b, thg es b) ∈ es
  | [], _, _, _, m => by simp at m
  | e :: es, kvs, hk, hv, m => by
    cases kvs with
    | nil => simp at hk
    | cons a kvs =>
      simp only [List.map_cons, List.cons.injEq] at hk
      cases hv with
      | cons h1 h2 =>
        by_cases q : e.1 = b
        · refine ⟨a.2, ?_, ?_, ?_⟩
          · unfold valV
            rw [List.find?_cons_of_pos (by rw [hk.1, q]; simp)]
            rfl
          · have : thg (e :: es) b = e.2 := by
              unfold thg
              rw [List.find?_cons_of_pos (by simp [q])]
              rfl
            rw [this]
            exact h1
          · have : thg (e :: es) b = e.2 := by
              unfold thg
              rw [List.find?_cons_of_pos (by simp [q])]
              rfl
            rw [this, ← q]
            exact List.mem_cons_self
        · have m' : b ∈ es.map (·.1) := by
            simp only [List.map_cons, List.mem_cons] at m
            rcases m with m | m
            · exact absurd m.symm q
            · exact m
          obtain ⟨v, g1, g2, g3⟩ := th_find b es kvs hk.2 h2 m'
          have e2 : thg (e :: es) b = thg es b := by
            unfold thg
            rw [List.find?_cons_of_neg (by simpa using q)]
          refine ⟨v, ?_, by rw [e2]; exact g2, by rw [e2]; exact List.mem_cons_of_mem _ g3⟩
          unfold valV at g1 ⊢
          rw [List.find?_cons_of_neg (by rw [hk.1]; simpa using q)]
          exact g1
theorem ThAt.get {K : PySem.W.Frag} {H : Hp} {d : Addr} {es : List (Int × PyData)} {kvs : List (Key × V)} (x : ThAt K H d es kvs) {b : Int} (m : b ∈ es.map (·.1)) :
    ∃ (p : Addr) (its : List V), DGet H d (.int b) (some (.ref p)) ∧ SqT K H p its ∧ atI its 0 = some (.str (word es b)) ∧ Dp K H (.ref p) (thg es b) ∧ Th b (thg es b) := by
  obtain ⟨v, h1, h2, h3⟩ := th_find b es kvs x.ks x.vs m
  have t : Th b (thg es b) := x.th _ h3
  obtain ⟨wd, r, ed⟩ := t.ex
  have h2' := h2
  have e3 : word es b = wd := by
    unfold word
    rw [ed]
    rfl
  rw [ed] at h2'
  cases h2' with
  | @tup a its ds hs ha =>
    refine ⟨a, its, ?_, hs, ?_, by rw [ed]; exact .tup hs ha, t⟩
    · have q := DGet.k (k := Sum.inl b) x.at_
      rw [h1] at q
      exact q
    · rw [e3]
      cases ha with
      | cons q1 q2 =>
        cases q1
        exact atI_nat (j := 0) rfl
theorem putK_end {kvs : List (Key × V)} {k : Key} {v : V} (h : ∀ p ∈ kvs, p.1 ≠ k) : putK kvs k v = kvs ++ [(k, v)] := by
  unfold putK
  rw [if_neg]
  intro q
  obtain ⟨p, hp, e⟩ := List.any_eq_true.mp q
  exact h p hp (of_decide_eq_true e)
theorem decS {x y : Str} : decide (V.str x = V.str y) = decide (x = y) := by
  by_cases q : x = y
  · rw [q]; simp
  · rw [decide_eq_false q, decide_eq_false (fun z => q (V.str.inj z))]
theorem ThAt.same {K : PySem.W.Frag} {H H' : Hp} {d : Addr} {es : List (Int × PyData)} {kvs : List (Key × V)} (x : ThAt K H d es kvs) (s : Same H H') : ThAt K H' d es kvs :=
  ⟨s _ _ x.at_, x.ks, dps_same s _ _ x.vs, x.th⟩
theorem flatDs_of : ∀ ds : List PyData, (∀ d ∈ ds, flatD d = true) → flatDs ds = true
  | [], _ => rfl
  | d :: ds, h => by simp [flatDs, h d List.mem_cons_self, flatDs_of ds fun x hx => h x (List.mem_cons_of_mem _ hx)]
theorem ThAt.fl {K : PySem.W.Frag} {H : Hp} {d : Addr} {es : List (Int × PyData)} {kvs : List (Key × V)} (x : ThAt K H d es kvs) : flatDs (es.map (·.2)) = true :=
  flatDs_of _ fun z hz => by
    obtain ⟨e, he, rfl⟩ := List.mem_map.mp hz
    exact (x.th e he).fl
theorem ThAt.kp {M : Addr → Prop} {K : PySem.W.Frag} {H H' : Hp} {d : Addr} {es : List (Int × PyData)} {kvs : List (Key × V)} (x : ThAt K H d es kvs) (k : Kp M H H') (n : ¬ M d) : ThAt K H' d es kvs :=
  ⟨k.st _ _ n x.at_, x.ks, dps_keep (fun _ _ h => k.tup h) _ _ x.fl x.vs, x.th⟩
theorem wt_int {i : Int} (h : i.natAbs < 10 ^ 12) : PyData.weight (.int i) ≤ 64 := by
  simp only [PyData.weight]
  split
  · omega
  · rename_i q
    have q' : i.natAbs ≠ 0 := by
      intro z
      apply q
      simp
      omega
    have := (Nat.log2_lt q').mpr (show i.natAbs < 2 ^ 63 from Nat.lt_of_lt_of_le h (by decide))
    omega
theorem ThAt.snoc {K : PySem.W.Frag} {H : Hp} {d : Addr} {es : List (Int × PyData)} {kvs : List (Key × V)} (x : ThAt K H d es kvs) {b : Int} {v : V} {t : PyData} (n : b ∉ es.map (·.1)) (hv : Dp K H v t) (ht : Th b t) :
    ThAt K (upd H d (.dK (putK kvs (Sum.inl b) v))) d (es ++ [(b, t)]) (putK kvs (Sum.inl b) v) := by
  have e1 : putK kvs (Sum.inl b) v = kvs ++ [(Sum.inl b, v)] := putK_end fun p hp q => n (by
    have : p.1 ∈ kvs.map (·.1) := List.mem_map.mpr ⟨p, hp, rfl⟩
    rw [x.ks] at this
    obtain ⟨e, he, e2⟩ := List.mem_map.mp this
    rw [q] at e2
    exact List.mem_map.mpr ⟨e, he, Sum.inl.inj e2⟩)
  have keep : ∀ a xs, SqT K H a xs → SqT K (upd H d (.dK (putK kvs (Sum.inl b) v))) a xs := fun a xs h => by
    rcases h with (h | ⟨o, h⟩) | h
    · exact .inl (.inl (by rw [upd_ne (ne_of h x.at_ (by intro z; cases z))]; exact h))
    · exact .inl (.inr ⟨o, by rw [upd_ne (ne_of h x.at_ (by intro z; cases z))]; exact h⟩)
    · exact .inr h
  refine ⟨upd_same, ?_, ?_, ?_⟩
  · rw [e1, List.map_append, List.map_append, x.ks]
    rfl
  · have h1 := dps_keep keep _ _ x.fl x.vs
    have h2 := dp_keep keep _ _ ht.fl hv
    rw [show (putK kvs (Sum.inl b) v).map (·.2) = kvs.map (·.2) ++ [v] by rw [e1, List.map_append]; rfl, List.map_append]
    exact DpAll.snoc h2 h1
  · intro e he
    rcases List.mem_append.mp he with he | he
    · exact x.th e he
    · cases List.mem_singleton.mp he
      exact ht
theorem Kp.mut {M : Addr → Prop} {H H' : Hp} {d : Addr} {o : HO} (k : Kp M H H') (hd : H d = Option.none) : Kp M H (upd H' d o) :=
  ⟨fun a u n e => by
    rw [upd_ne (ne_of_none e hd)]
    exact k.st a u n e, k.l1, fun a m => by
    have q : a ≠ d := fun q => k.m_of hd (q ▸ m)
    rw [upd_ne q]
    exact k.l2 a m⟩
theorem Hand.put {H : Hp} {h c d : Addr} {o : HO} (x : Hand H h c) (n : ∀ xs, H d ≠ some (.lst xs)) : Hand (upd H d o) h c := by
  obtain ⟨cells, i, b, t, e1, e2, q⟩ := x
  refine ⟨cells, i, b, t, ?_, ?_, q⟩
  · rw [upd_ne (fun z => n _ (z ▸ e1))]
    exact e1
  · rw [upd_ne (fun z => n _ (z ▸ e2))]
    exact e2
theorem Hand.puts {H : Hp} {h c d : Addr} {o : HO} (x : Hand H h c) (n1 : d ≠ h) (n2 : d ≠ c) : Hand (upd H d o) h c := by
  obtain ⟨cells, i, b, t, e1, e2, q⟩ := x
  exact ⟨cells, i, b, t, by rw [upd_ne (Ne.symm n1)]; exact e1, by rw [upd_ne (Ne.symm n2)]; exact e2, q⟩
theorem Hand.there {H : Hp} {h c d : Addr} (x : Hand H h c) (n : H d = Option.none) : d ≠ h ∧ d ≠ c := by
  obtain ⟨cells, i, b, t, e1, e2, q⟩ := x
  exact ⟨(ne_of_none e1 n).symm, (ne_of_none e2 n).symm⟩
theorem Hand.ne {H : Hp} {h c d : Addr} (x : Hand H h c) (n : ∀ xs, H d ≠ some (.lst xs)) : d ≠ h := fun z => by
  obtain ⟨xs, e⟩ := x.lst
  exact n xs (z ▸ e)
/-- 1 .. n -/
def births (n : Nat) : List Int := (List.range n).map fun (i : Nat) => (i : Int) + 1
theorem births_succ (n : Nat) : births (n + 1) = births n ++ [(n : Int) + 1] := by
  unfold births
  rw [List.range_succ, List.map_append]
  rfl
theorem births_mem {n : Nat} {b : Int} : b ∈ births n ↔ 1 ≤ b ∧ b ≤ n := by
  unfold births
  rw [List.mem_map]
  constructor
  · rintro ⟨i, hi, rfl⟩
    have := List.mem_range.mp hi
    omega
  · intro q
    exact ⟨(b - 1).toNat, List.mem_range.mpr (by omega), by omega⟩
/-- a new thing is put at the next birth -/
theorem things_put {K : PySem.W.Frag} {H H3 : Hp} {h c d : Addr} {es : List (Int × PyData)} {kvs : List (Key × V)} {i : Nat} {v : V} {t : PyData} (kh : Kh h H H3) (hh : Hand H3 h c) (x : ThAt K H3 d es kvs) (hd : H d = Option.none)
    (hk : es.map (·.1) = births i) (hi : i < 1000) (hv : Dp K H3 v t) (ht : Th (1 + i) t) :
    ∃ H4 es' kvs', DPut H3 d (.int (1 + (i : Nat))) v H4 ∧ Kh h H H4 ∧ Hand H4 h c ∧ ThAt K H4 d es' kvs' ∧ es'.map (·.1) = births (i + 1) := by
  have hb : (1 : Int) + i ∉ es.map (·.1) := by
    rw [hk, births_mem]
    omega
  have hl : kvs.length < sizeLine := by
    have e := congrArg List.length x.ks
    rw [List.length_map, List.length_map] at e
    have e2 := congrArg List.length hk
    rw [List.length_map] at e2
    have e3 : (births i).length = i := by unfold births; rw [List.length_map, List.length_range]
    rw [e, e2, e3]
    exact Nat.lt_trans hi (by decide)
  refine ⟨_, _, _, DPut.k (k := Sum.inl (1 + (i : Int))) x.at_ hl, kh.mut hd, hh.put (fun xs e => by rw [x.at_] at e; cases e), x.snoc hb hv ht, ?_⟩
  rw [List.map_append, hk, births_succ]
  show births i ++ [1 + (i : Int)] = _
  rw [show (1 : Int) + i = i + 1 by omega]
theorem births_len (n : Nat) : (births n).length = n := by
  unfold births
  rw [List.length_map, List.length_range]
end Cm

/-! comprehensions over data -/
namespace Cm
open PySem L2
theorem sqt_put {K : PySem.W.Frag} {H : Hp} {D a : Addr} {xs ys zs : List V} (h : H D = some (.lst ys)) (q : SqT K H a xs) : SqT K (upd H D (.lst zs)) a xs := by
  rcases q with (q | ⟨o, q⟩) | q
  · exact .inl (.inl (by rw [upd_ne (ne_of q h (by intro z; cases z))]; exact q))
  · exact .inl (.inr ⟨o, by rw [upd_ne (ne_of q h (by intro z; cases z))]; exact q⟩)
  · exact .inr q
theorem same_put {H H' : Hp} {D : Addr} {o : HO} (s : Same H H') (h : H D = Option.none) : Same H (upd H' D o) := fun b u e => by
  rw [upd_ne (ne_of_none e h)]
  exact s b u e
theorem sqt_same {K : PySem.W.Frag} {H H' : Hp} {a : Addr} {xs : List V} (s : Same H H') (h : SqT K H a xs) : SqT K H' a xs := by
  rcases h with (h | ⟨o, h⟩) | h
  · exact .inl (.inl (s _ _ h))
  · exact .inl (.inr ⟨o, s _ _ h⟩)
  · exact .inr h
theorem flatDs_all {ds : List PyData} (h : flatDs ds = true) : ∀ d ∈ ds, flatD d = true := by
  induction ds with
  | nil => intro d hd; cases hd
  | cons a r ih =>
    have h' : flatD a = true ∧ flatDs r = true := by simpa [flatDs] using h
    intro d hd
    rcases List.mem_cons.mp hd with rfl | hd
    · exact h'.1
    · exact ih h'.2 d hd
theorem flatDs_app {ds es : List PyData} (h1 : flatDs ds = true) (h2 : flatDs es = true) : flatDs (ds ++ es) = true :=
  flatDs_of _ fun d hd => by
    rcases List.mem_append.mp hd with q | q
    · exact flatDs_all h1 d q
    · exact flatDs_all h2 d q
theorem walk_upto {n : Nat} : Walk (Itr 0 n) n (fun _ => True) (YFn fun i => .int ((i : Nat) : Int)) :=
  ⟨fun _ _ hi _ => hi, fun _ _ => Nat.le_refl _, fun i H x H' _ _ y => ⟨y.1, by
    have := y.2
    rw [Int.zero_add] at this
    exact this⟩⟩
/-! ### the same rules where the context is a comprehension's block: K is said -/
section
variable {X : Cx} {K : PySem.W.Frag}
theorem kx_tup (h : X.K = K := by rfl) : IxR X (rIxT K) := by subst h; exact ix_tup
theorem kx_list (h : X.K = K := by rfl) : IxR X (rIxL K) := by subst h; exact ix_list
theorem kx_seq (h : X.K = K := by rfl) : IxR X (rIx K) := by subst h; exact ix_seq
theorem ko_eqD (hu : X.A.units + 64 < cLine) (h : X.K = K := by rfl) : OpR X (compareOp .Eq) (rEqD K) := by subst h; exact op_eqD hu
theorem ko_neD (hu : X.A.units + 64 < cLine) (h : X.K = K := by rfl) : OpR X (compareOp .NotEq) (rNeD K) := by subst h; exact op_neD hu
theorem ko_in (h : X.K = K := by rfl) : OpR X (compareOp .In) (rIn K false) := by subst h; exact op_in_seq
theorem ko_notIn (h : X.K = K := by rfl) : OpR X (compareOp .NotIn) (rIn K true) := by subst h; exact op_notIn_seq
theorem ko_catA (h : X.K = K := by rfl) : OpR X (binaryOp .Add) (rCatA K) := by subst h; exact op_catA
def rLen (K : PySem.W.Frag) : List V → Hp → VK → Prop := fun xs H Q => ∃ p ys, xs = [.ref p] ∧ (SqL K H p ys ∨ SqT K H p ys) ∧ Q (.int ys.length) H
theorem kc_len (h : X.K = K := by rfl) : CallR X (.builtin "len") (rLen K) := by subst h; exact call_len_seq
end
/-- a comprehension whose items are data without lists: R i is the i-th turn's, none if it is left out -/
theorem lc_data {K : PySem.W.Frag} {J : It} {n : Nat} {G : Hp → Prop} {Y : Nat → Hp → V → Hp → Prop} (wk : Walk J n G Y) {g : TG} {tt : TT} {te : TE} {vs : List Nat} {σ : L2.St} {H1 : Hp} {D : Addr} {Qd : Hp → Prop} (R : Nat → Option PyData)
    (hD : H1 D = Option.none) (hn : n ≤ 100000) (hG : ∀ H, Same H1 H → G H) (hfl : ∀ i < n, ∀ d, R i = some d → flatD d = true)
    (hs : ∀ i x H H', i < n → Same H1 H → Y i H x H' → ∀ (Q1 : VK) (Q0 : Hp → Prop), (∀ v H4 d, R i = some d → Same H H4 → Dp K H4 v d → Q1 v H4) → (∀ H3, R i = none → Same H H3 → Q0 H3) →
      g x (wipe σ vs) H' fun σ2 H2 => wipe σ2 vs = wipe σ vs ∧ tt σ2 H2 fun b H3 => if b = true then te σ2 H3 Q1 else Q0 H3)
    (hd : ∀ H acc, Same H1 H → H D = some (.lst acc) → DpAll K H acc ((List.range n).filterMap R) → Qd H) :
    ∃ W : Nat → Nat → Hp → Prop, (∃ m, W 0 m (upd H1 D (.lst []))) ∧ ∀ i m H, W i m H →
      (J.stop i H ∧ Qd H) ∨ (J.go i H ∧ ∃ Nx : Hp → Prop, (∀ H', Nx H' → ∃ m', m' < m ∧ W (i + 1) m' H') ∧ ∀ x H', J.yld i H x H' → g x (wipe σ vs) H' fun σ2 H2 => wipe σ2 vs = wipe σ vs ∧ tt σ2 H2 fun b H3 =>
        if b = true then te σ2 H3 fun y H4 => ∃ acc, H4 D = some (.lst acc) ∧ acc.length < sizeLine ∧ Nx (upd H4 D (.lst (acc ++ [y]))) else Nx H3) := by
  have fl : ∀ i ≤ n, flatDs ((List.range i).filterMap R) = true := fun i hi => flatDs_of _ fun d hd => by
    obtain ⟨j, hj, e⟩ := List.mem_filterMap.mp hd
    exact hfl j (by have := List.mem_range.mp hj; omega) d e
  refine lc_it wk (fun i H => ∃ acc, Same H1 H ∧ H D = some (.lst acc) ∧ DpAll K H acc ((List.range i).filterMap R) ∧ acc.length ≤ i) ⟨[], same_new hD, upd_same, .nil, Nat.le_refl _⟩ (fun i H _ z => ?_) ?_ ?_
  · obtain ⟨acc, s, _⟩ := z
    exact hG H s
  · rintro i x H H' hi ⟨acc, s, hacc, ha, hl⟩ y
    refine hs i x H H' hi s y _ _ (fun v H4 d e s4 hv => ?_) (fun H3 e s3 => ?_)
    · have hD4 := s4 _ _ hacc
      refine ⟨acc, hD4, Nat.lt_of_le_of_lt hl (Nat.lt_of_lt_of_le (show i < 100000 by omega) (by decide)), acc ++ [v], same_put (s.trans s4) hD, upd_same, ?_, by rw [List.length_append]; exact Nat.succ_le_succ hl⟩
      rw [List.range_succ, List.filterMap_append]
      have e1 : ([i].filterMap R) = [d] := by simp [e]
      rw [e1]
      exact DpAll.snoc (dp_keep (fun _ _ q => sqt_put hD4 q) _ _ (hfl i hi d e) hv) (dps_keep (fun _ _ q => sqt_put hD4 q) _ _ (fl i (by omega)) (dps_same s4 _ _ ha))
    · refine ⟨acc, s.trans s3, s3 _ _ hacc, ?_, by omega⟩
      rw [List.range_succ, List.filterMap_append]
      have e1 : ([i].filterMap R) = [] := by simp [e]
      rw [e1, List.append_nil]
      exact dps_same s3 _ _ ha
  · rintro H ⟨acc, s, hacc, ha, _⟩
    exact hd H acc s hacc ha
/-- a comprehension that draws: each item is data that is good -/
theorem lc_draw {K : PySem.W.Frag} {M : Addr → Prop} {J : It} {n : Nat} {G : Hp → Prop} {Y : Nat → Hp → V → Hp → Prop} (wk : Walk J n G Y) {g : TG} {tt : TT} {te : TE} {vs : List Nat} {σ : L2.St} {H1 : Hp} {D : Addr} {Qd : Hp → Prop}
    (I : Hp → Prop) (Gd : PyData → Prop) (hM : ∀ a, M a → ∃ xs, H1 a = some (.lst xs)) (h0 : I (upd H1 D (.lst []))) (hI : ∀ H ys, Kp M H1 H → I H → I (upd H D (.lst ys)))
    (hD : H1 D = Option.none) (hn : n ≤ 100000) (hG : ∀ H, Kp M H1 H → I H → G H) (hfl : ∀ d, Gd d → flatD d = true)
    (hs : ∀ i x H H', i < n → Kp M H1 H → I H → Y i H x H' → ∀ (Q1 : VK) (Q0 : Hp → Prop), (∀ v H4 d, Gd d → Kp M H H4 → I H4 → Dp K H4 v d → Q1 v H4) → (∀ H3, Kp M H H3 → I H3 → Q0 H3) →
      g x (wipe σ vs) H' fun σ2 H2 => wipe σ2 vs = wipe σ vs ∧ tt σ2 H2 fun b H3 => if b = true then te σ2 H3 Q1 else Q0 H3)
    (hd : ∀ H acc ds, Kp M H1 H → I H → H D = some (.lst acc) → DpAll K H acc ds → (∀ d ∈ ds, Gd d) → ds.length ≤ n → Qd H) :
    ∃ W : Nat → Nat → Hp → Prop, (∃ m, W 0 m (upd H1 D (.lst []))) ∧ ∀ i m H, W i m H →
      (J.stop i H ∧ Qd H) ∨ (J.go i H ∧ ∃ Nx : Hp → Prop, (∀ H', Nx H' → ∃ m', m' < m ∧ W (i + 1) m' H') ∧ ∀ x H', J.yld i H x H' → g x (wipe σ vs) H' fun σ2 H2 => wipe σ2 vs = wipe σ vs ∧ tt σ2 H2 fun b H3 =>
        if b = true then te σ2 H3 fun y H4 => ∃ acc, H4 D = some (.lst acc) ∧ acc.length < sizeLine ∧ Nx (upd H4 D (.lst (acc ++ [y]))) else Nx H3) := by
  have nM : ¬ M D := fun m => by
    obtain ⟨xs, e⟩ := hM D m
    rw [hD] at e
    cases e
  refine lc_it wk (fun i H => ∃ acc ds, Kp M H1 H ∧ I H ∧ H D = some (.lst acc) ∧ DpAll K H acc ds ∧ (∀ d ∈ ds, Gd d) ∧ ds.length ≤ i) ⟨[], [], Kp.new hM hD, h0, upd_same, .nil, (by intro d hd; cases hd), Nat.le_refl _⟩ (fun i H _ z => ?_) ?_ ?_
  · obtain ⟨acc, ds, s, iH, _⟩ := z
    exact hG H s iH
  · rintro i x H H' hi ⟨acc, ds, s, iH, hacc, ha, hg, hl⟩ y
    have fl : flatDs ds = true := flatDs_of _ fun d hd => hfl d (hg d hd)
    refine hs i x H H' hi s iH y _ _ (fun v H4 d e s4 i4 hv => ?_) (fun H3 s3 i3 => ?_)
    · have hD4 := s4.st _ _ nM hacc
      refine ⟨acc, hD4, ?_, acc ++ [v], ds ++ [d], (s.trans s4).mut hD, hI _ _ (s.trans s4) i4, upd_same, ?_, ?_, by rw [List.length_append]; exact Nat.succ_le_succ hl⟩
      · rw [DpAll.len ha]
        exact Nat.lt_of_le_of_lt hl (Nat.lt_of_lt_of_le (show i < 100000 by omega) (by decide))
      · exact DpAll.snoc (dp_keep (fun _ _ q => sqt_put hD4 q) _ _ (hfl d e) hv) (dps_keep (fun _ _ q => sqt_put hD4 q) _ _ fl (dps_keep (fun _ _ q => s4.tup q) _ _ fl ha))
      · intro d' hd'
        rcases List.mem_append.mp hd' with q | q
        · exact hg d' q
        · cases List.mem_singleton.mp q
          exact e
    · exact ⟨acc, ds, s.trans s3, i3, s3.st _ _ nM hacc, dps_keep (fun _ _ q => s3.tup q) _ _ fl ha, hg, by omega⟩
  · rintro H ⟨acc, ds, s, iH, hacc, ha, hg, hl⟩
    exact hd H acc ds s iH hacc ha hg hl
/-! ### data that repr takes -/
structure Sm (D W : Nat) (d : PyData) : Prop where
  ok : okD d = true
  dp : d.depth ≤ D
  wt : d.weight ≤ W
theorem Sm.mono {D W D' W' : Nat} {d : PyData} (x : Sm D W d) (h1 : D ≤ D') (h2 : W ≤ W') : Sm D' W' d := ⟨x.ok, Nat.le_trans x.dp h1, Nat.le_trans x.wt h2⟩
theorem sm_int {i : Int} (h : i.natAbs < 10 ^ 12) : Sm 0 64 (.int i) := ⟨by simp only [okD]; exact decide_eq_true h, by simp [PyData.depth], wt_int h⟩
theorem sm_all {D W : Nat} : ∀ {ds : List PyData}, (∀ d ∈ ds, Sm D W d) → okDs ds = true ∧ PyData.depthAll ds ≤ D ∧ PyData.weightAll ds ≤ ds.length * (W + 2)
  | [], _ => ⟨rfl, by simp [PyData.depthAll], by simp [PyData.weightAll]⟩
  | d :: ds, h => by
    have a := h d List.mem_cons_self
    obtain ⟨b1, b2, b3⟩ := sm_all (ds := ds) fun x hx => h x (List.mem_cons_of_mem _ hx)
    refine ⟨by simp [okDs, a.ok, b1], ?_, ?_⟩
    · have := a.dp
      simp only [PyData.depthAll]
      omega
    · have := a.wt
      simp only [PyData.weightAll, List.length_cons, Nat.add_mul]
      omega
theorem Sm.tuple {D W m : Nat} {ds : List PyData} (h : ∀ d ∈ ds, Sm D W d) (hm : ds.length ≤ m) : Sm (D + 1) (m * (W + 2)) (.tuple ds) := by
  obtain ⟨a, b, c⟩ := sm_all h
  refine ⟨by simpa [okD] using a, ?_, ?_⟩
  · simp only [PyData.depth]
    omega
  · simp only [PyData.weight]
    exact Nat.le_trans c (Nat.mul_le_mul_right _ hm)
theorem Sm.rep {K : PySem.W.Frag} {H : Hp} {x : V} {D W : Nat} {d : PyData} {Q : VK} (s : Sm D W d) (h1 : D ≤ 60) (h2 : W ≤ 2 ^ 20) (hd : Rp K H x d) (q : Q (.str d.shown) H) : rRepr K [x] H Q :=
  ⟨x, d, rfl, hd, s.ok, Nat.le_trans s.dp h1, Nat.le_trans s.wt h2, q⟩
theorem sm_kv {D W : Nat} : ∀ {es : List (Int × PyData)}, (∀ e ∈ es, e.1.natAbs < 10 ^ 12 ∧ Sm D W e.2) → okDk (es.map fun e => (PyData.int e.1, e.2)) = true ∧ PyData.depthKv (es.map fun e => (PyData.int e.1, e.2)) ≤ D ∧ PyData.weightKv (es.map fun e => (PyData.int e.1, e.2)) ≤ es.length * (W + 70)
  | [], _ => ⟨rfl, by simp [PyData.depthKv], by simp [PyData.weightKv]⟩
  | e :: es, h => by
    obtain ⟨a1, a⟩ := h e List.mem_cons_self
    obtain ⟨b1, b2, b3⟩ := sm_kv (es := es) fun x hx => h x (List.mem_cons_of_mem _ hx)
    have i := sm_int a1
    refine ⟨by simp [okDk, a.ok, b1, i.ok], ?_, ?_⟩
    · have := a.dp
      have := i.dp
      simp only [List.map_cons, PyData.depthKv]
      omega
    · have := a.wt
      have := i.wt
      simp only [List.map_cons, PyData.weightKv, List.length_cons, Nat.add_mul] at this ⊢
      omega
/-- what repr is asked of -/
def Rok (K : PySem.W.Frag) (H : Hp) (x : V) (d : PyData) : Prop := Rp K H x d ∧ okD d = true ∧ d.depth ≤ 60 ∧ d.weight ≤ 2 ^ 20
theorem Sm.rok {K : PySem.W.Frag} {H : Hp} {x : V} {D W : Nat} {d : PyData} (s : Sm D W d) (h1 : D ≤ 60) (h2 : W ≤ 2 ^ 20) (hd : Rp K H x d) : Rok K H x d :=
  ⟨hd, s.ok, Nat.le_trans s.dp h1, Nat.le_trans s.wt h2⟩
/-- the whole dict of things -/
theorem ThAt.rok {K : PySem.W.Frag} {H : Hp} {d : Addr} {es : List (Int × PyData)} {kvs : List (Key × V)} (x : ThAt K H d es kvs) {n : Nat} (hk : es.map (·.1) = births n) (hn : n ≤ 100) : Rok K H (.ref d) (PyData.dict (es.map fun e => (PyData.int e.1, e.2))) := by
  obtain ⟨a, b, c⟩ := sm_kv (D := 8) (W := 4000) (es := es) fun e he => by
    have m : e.1 ∈ births n := by rw [← hk]; exact List.mem_map.mpr ⟨e, he, rfl⟩
    have := births_mem.mp m
    exact ⟨by omega, ⟨(x.th e he).ok, (x.th e he).dp, (x.th e he).wt⟩⟩
  have hl : es.length = n := by
    have e := congrArg List.length hk
    rw [List.length_map, births_len] at e
    exact e
  refine ⟨.inr ⟨d, kvs, es, rfl, x.at_, x.ks, x.vs, x.fl, rfl⟩, by simpa [okD] using a, ?_, ?_⟩
  · simp only [PyData.depth]
    omega
  · simp only [PyData.weight]
    refine Nat.le_trans c ?_
    rw [hl]
    exact Nat.le_trans (Nat.mul_le_mul_right _ hn) (by decide)
end Cm

/-! defs that may ask repr, called by name where nothing is under repr -/
namespace Cm
open PySem L2 PySem.Spec PyProof.Rows
structure ClG (P : Program) (w : World) (K : PySem.W.Frag) (mg : Str → Option Value) (base : Heap) (k : Nat) (x : Str) (sp : Sp) : Prop where
  ex : ∃ (f : Addr) (fd : FuncData) (ps : List Str), (∀ vs H Q E, sp vs H Q E → vs.length = ps.length) ∧ LawAt P w K mg base k f fd ps sp ∧ mg x = some (.ref f) ∧ PySem.W.keepIn K (.ref f) = true ∧ Binds K fd ps []
section
variable {P : Program} {w : World} {K : PySem.W.Frag} {mg : Str → Option Value} {base : Heap}
theorem clG_of {x : Str} {st : Stmt} {N ps : List Str} {k : Nat} {sp : Sp} (T : At K mg x st ps) (S : FnScope N ps (defScope st))
    (len : ∀ vs H Q E, sp vs H Q E → vs.length = ps.length)
    (hb : ∀ (f : Addr) (cdv : Value) (A : Around) (outer : List Env) (s : Shared) (H : Hp) (vs : List V) (Q : VK) (E : XK), (A.deeper (envOfC x (defScope st) s.heap.objs.size f cdv)).guards = some [] →
      Room k (A.deeper (envOfC x (defScope st) s.heap.objs.size f cdv)) → sp vs H Q E →
      ∃ t, PSs (cxOf CX0 P w K mg base N x (defScope st) f cdv A outer s H E).nox (defBody st) t ∧ t { nx := fun _ H' => Q .non H', rt := Q } (start N vs) H) :
    ClG P w K mg base (k + 1) x sp := by
  obtain ⟨f, fd, F, hm, b⟩ := T.ex
  exact ⟨f, fd, ps, len, lawAt_of F S len fun cdv A outer s H vs Q E hg => hb f cdv A outer s H vs Q E hg, hm, F.kp, b⟩
end
section
variable {X : Cx} {j k : Nat} {x : Str} {sp : Sp} {e : Expr} {es : List Expr} {t : TA} {p pos : Pos}
theorem pe_cG (c : ClG X.prog X.w X.K X.mg X.base k x sp) (hgd : X.A.guards = some []) (hr : Room j X.A) (hk : k ≤ j) (hg : Gl X x) (ha : PA X (e :: es) t)
    (hdb : (x == ("__debug__" : Str)) = false := by decide) (he : starEach (e :: es) X.env = (false, eval e X.env) :: starEach es X.env := by rfl)
    (hpl : (backTo pos (starEach es X.env)).any (·.1) = false := by rfl) : PE X (.Call (.Name x p) (e :: es) [] pos) (tCall sp [] E0 t) := by
  obtain ⟨f, fd, ps, len, F, hm, kp, b⟩ := c.ex
  refine ⟨fun pins s σ H Q I h => ?_⟩
  refine wpAny_Call_Name_kw (ld_glob I hg hm ?_ hdb)
  refine PySem.W.callWith_K (h₀ := X.base) I.ok.mod.kin kp (thn (ha.run pos pins s σ H _ I h) fun us s1 ⟨vs, H1, I1, r, q⟩ => ⟨I1.kIn, ?_⟩) he hpl
  have q' : sp vs H1 Q E0 := by
    have q0 : sp (vs ++ []) H1 Q E0 := q
    rwa [List.append_nil] at q0
  have hl : us.length = ps.length := by rw [← r.length]; exact len _ _ _ _ q'
  have hb := b s1 us I1.kIn (by rw [List.append_nil]; exact hl)
  rw [List.append_nil] at hb
  refine wpAny_call (codeAny_mono (F X.A X.stack s1 H1 ⟨us, []⟩ us vs Q E0 hgd (hr.mono hk) I1.env0 hb r q') fun r s' hq => ?_)
  cases r with
  | error e => exact pass0 pins σ H1 s1 e s' I1 hq
  | ok fl =>
    cases fl with
    | ret u => exact I1.after hq
    | next => exact False.elim hq
    | brk => exact False.elim hq
    | cont => exact False.elim hq
end
/-! ### a walk over a list or a tuple -/
def iSeq (K : PySem.W.Frag) (tl : TE) : TI := fun σ H R => tl σ H fun x H1 => ∃ a, x = .ref a ∧ ((∃ xs, SqL K H1 a xs) ∧ R (Itl K a) H1 ∨ (∃ xs, SqT K H1 a xs) ∧ R (Itt K a) H1)
theorem pi_seq {X : Cx} {tg l : Expr} {tl : TE} (hl : PE X l tl) : PI X tg l (iSeq X.K tl) := by
  refine ⟨fun pins s σ H R I h => ?_⟩
  refine thn (hl.run pins s σ H _ I h) fun v s1 ⟨x, H1, I1, r1, q1⟩ => ?_
  obtain ⟨a, rfl, q1⟩ := q1
  cases r1
  have fp : ∀ b ∈ [s1.heap.objs.size], b = s1.heap.objs.size := fun b hb => by simpa using hb
  rcases q1 with ⟨⟨xs, hq⟩, q⟩ | ⟨⟨xs, hq⟩, q⟩
  · obtain ⟨its, rv, p, hz⟩ := I1.list hq
    refine wpAny_pyIter_list p.isList ?_
    refine ⟨_, _, _, _, H1, rfl, I1.kept (t' := s1.toks) fun b o e => Heap.get?_push_of_some _ e, turn_list a _, ⟨_, Heap.get?_push_size _ rfl, rfl, rfl⟩, fun b hb => ?_, q⟩
    cases fp b hb
    exact I1.fpOk (Nat.le_refl _) (I1.hok.fresh (Nat.le_refl _))
  · obtain ⟨its, rv, p, hz⟩ := I1.tuple hq
    refine wpAny_pyIter_tuple (show s1.heap.IsTuple a its.toArray from p) ?_
    refine ⟨_, _, _, _, H1, rfl, I1.kept (t' := s1.toks) fun b o e => Heap.get?_push_of_some _ e, turn_tuple a _, ⟨_, Heap.get?_push_size _ rfl, rfl, rfl⟩, fun b hb => ?_, q⟩
    cases fp b hb
    exact I1.fpOk (Nat.le_refl _) (I1.hok.fresh (Nat.le_refl _))
theorem ks_tupA {X : Cx} {K : PySem.W.Frag} (h : X.K = K := by rfl) : SlR X (rSlA K) := by subst h; exact sl_tupA
theorem ne_same (x : V) : (!decide (x = x)) = false := by simp
theorem tyx_tup {K : PySem.W.Frag} {H : Hp} {a : Addr} {xs : List V} (h : SqT K H a xs) : TyX K H (.ref a) (.type "tuple") := by
  rcases h with (h | ⟨o, h⟩) | ⟨o, its, n, e, c, _⟩
  · exact .base (.tup h)
  · exact .fTuple h
  · exact .kTuple e c
theorem kit_tup {K : PySem.W.Frag} : PySem.W.kitOne K (.type "tuple") (.type "tuple") = some true := by rfl
end Cm

/-! a for over a list or a tuple, as one -/
namespace Cm
open PySem L2 PySem.Spec PyProof.Rows
theorem for_seq {K : PySem.W.Frag} {tl : TE} {g : TG} {tb : TS} {D : Ends} {σ : L2.St} {H Hb : Hp} {a : Addr} {xs : List V} (ht : ∀ Q : VK, Q (.ref a) H → tl σ H Q) (ha : SqL K Hb a xs ∨ SqT K Hb a xs)
    (Pv : Nat → L2.St → Hp → Prop) (h0 : Pv 0 σ H) (hG : ∀ i σ H', Pv i σ H' → Same Hb H')
    (hs : ∀ i x σ H1, i < xs.length → Pv i σ H1 → xs[i]? = some x → g x σ H1 fun σ2 H2 => tb { D with nx := Pv (i + 1), ct := Pv (i + 1), bk := D.nx } σ2 H2) (hd : ∀ σ H1, Pv xs.length σ H1 → D.nx σ H1) :
    tFor (iSeq K tl) g tb D σ H := by
  refine ht _ ⟨a, rfl, ?_⟩
  rcases ha with ha | ha
  · refine .inl ⟨⟨_, (hG _ _ _ h0).seq ha⟩, for_it (walk_list (xs := xs)) Pv h0 (fun i σ H' hi z => (hG i σ H' z).seq ha) (fun i x σ H1 H2 hi z y => ?_) hd⟩
    obtain ⟨rfl, e⟩ := y
    exact hs i x σ _ hi z e
  · refine .inr ⟨⟨_, sqt_same (hG _ _ _ h0) ha⟩, for_it (walk_tup (xs := xs)) Pv h0 (fun i σ H' hi z => sqt_same (hG i σ H' z) ha) (fun i x σ H1 H2 hi z y => ?_) hd⟩
    obtain ⟨rfl, e⟩ := y
    exact hs i x σ _ hi z e
end Cm

/-! trees of forms: a head and its parts; how they lie in tuples -/
namespace Cm
open PySem L2 PySem.Spec PyProof.Rows
inductive Hd where
  | num (i : Int)
  | name (x : Str)
  | lit (w : Str)
  | one (w x : Str)
  | fn (xs : List Str)
  | bind (w : Str) (xs : List Str)
  | doo
  | call
  | op (o : Str)
  | plain (w : Str)
inductive Tr where
  | mk (h : Hd) (ps : List Tr)
def encs (xs : List Str) : PyData := .tuple (xs.map PyData.str)
def rowD (p : Str × PyData) : PyData := .tuple [.str p.1, p.2]
def encH : Hd → List PyData → PyData
  | .num i, _ => .tuple [.str "number", .int i]
  | .name x, _ => .tuple [.str "name", .str x]
  | .lit w, _ => .tuple [.str w]
  | .one w x, ds => .tuple (.str w :: .str x :: ds)
  | .fn xs, ds => .tuple (.str "fn" :: encs xs :: ds)
  | .bind w xs, ds => .tuple (.str w :: .tuple ((xs.zip ds).map rowD) :: ds.drop xs.length)
  | .doo, ds => .tuple [.str "do", .tuple ds]
  | .call, ds => .tuple (.str "call" :: (ds.take 1 ++ [.tuple (ds.drop 1)]))
  | .op o, ds => .tuple [.str "op", .str o, .tuple ds]
  | .plain w, ds => .tuple (.str w :: ds)
mutual
def Tr.enc : Tr → PyData
  | .mk h ps => encH h (Tr.encL ps)
def Tr.encL : List Tr → List PyData
  | [] => []
  | t :: ts => t.enc :: Tr.encL ts
end
mutual
def Tr.dep : Tr → Nat
  | .mk _ ps => Tr.deps ps + 1
def Tr.deps : List Tr → Nat
  | [] => 0
  | t :: ts => max t.dep (Tr.deps ts)
end
def litW : List Str := ["true", "false", "none", "ask"]
def oneW : List Str := ["set", "keep", "once", "take"]
def bindW : List Str := ["let", "rec"]
def plainW : List Str := ["if", "mark", "wind", "show"]
abbrev sok (x : Str) : Prop := PyData.strOk x = true
def hok : Hd → Nat → Prop
  | .num _, n => n = 0
  | .name x, n => n = 0 ∧ sok x
  | .lit w, n => n = 0 ∧ w ∈ litW
  | .one w x, n => n = 1 ∧ w ∈ oneW ∧ sok x
  | .fn xs, n => n = 1 ∧ xs.length ≤ 100 ∧ ∀ x ∈ xs, sok x
  | .bind w xs, n => n = xs.length + 1 ∧ w ∈ bindW ∧ ∀ x ∈ xs, sok x
  | .doo, _ => True
  | .call, n => 1 ≤ n
  | .op o, _ => sok o
  | .plain w, _ => w ∈ plainW
mutual
def Tr.ok : Tr → Prop
  | .mk h ps => hok h ps.length ∧ ps.length ≤ 11 ∧ Tr.oks ps
def Tr.oks : List Tr → Prop
  | [] => True
  | t :: ts => t.ok ∧ Tr.oks ts
end
theorem encL_map : ∀ ps : List Tr, Tr.encL ps = ps.map Tr.enc
  | [] => rfl
  | t :: ts => by
    show t.enc :: Tr.encL ts = _
    rw [encL_map ts]
    rfl
theorem encL_len (ps : List Tr) : (Tr.encL ps).length = ps.length := by rw [encL_map, List.length_map]
theorem deps_le {n : Nat} : ∀ {ps : List Tr}, Tr.deps ps ≤ n ↔ ∀ t ∈ ps, t.dep ≤ n
  | [] => by simp [Tr.deps]
  | t :: ts => by
    have := deps_le (n := n) (ps := ts)
    show max t.dep (Tr.deps ts) ≤ n ↔ _
    rw [Nat.max_le, this]
    simp
theorem oks_iff : ∀ {ps : List Tr}, Tr.oks ps ↔ ∀ t ∈ ps, t.ok
  | [] => by simp [Tr.oks]
  | t :: ts => by
    show t.ok ∧ Tr.oks ts ↔ _
    rw [oks_iff]
    simp
theorem dep_mk {h : Hd} {ps : List Tr} {n : Nat} : (Tr.mk h ps).dep ≤ n + 1 ↔ ∀ t ∈ ps, t.dep ≤ n := by
  show Tr.deps ps + 1 ≤ n + 1 ↔ _
  rw [← deps_le]
  omega
/-- trees by their depth -/
theorem tr_ind {P : Tr → Prop} (h : ∀ hd ps, (∀ t ∈ ps, P t) → P (.mk hd ps)) (t : Tr) : P t := by
  have key : ∀ n, ∀ t : Tr, t.dep ≤ n → P t := by
    intro n
    induction n with
    | zero =>
      intro t ht
      cases t with
      | mk hd ps => exact absurd ht (by show ¬ (Tr.deps ps + 1 ≤ 0); omega)
    | succ n ih =>
      intro t ht
      cases t with
      | mk hd ps => exact h hd ps fun t m => ih t (dep_mk.mp ht t m)
  exact key t.dep t (Nat.le_refl _)
theorem flat_strs (xs : List Str) : flatDs (xs.map PyData.str) = true := flatDs_of _ fun d hd => by
  obtain ⟨x, _, rfl⟩ := List.mem_map.mp hd
  rfl
theorem flat_encH {h : Hd} {ds : List PyData} (f : flatDs ds = true) : flatD (encH h ds) = true := by
  have fd := flatDs_all f
  cases h with
  | num i => rfl
  | name x => rfl
  | lit w => rfl
  | one w x => show flatDs (_ :: _ :: ds) = true; simpa [flatDs, flatD] using f
  | fn xs => show flatDs (_ :: encs xs :: ds) = true; simp [flatDs, flatD, encs, flat_strs, f]
  | bind w xs =>
    show flatDs (_ :: _ :: ds.drop xs.length) = true
    have h1 : flatDs (ds.drop xs.length) = true := flatDs_of _ fun d hd => fd d (List.mem_of_mem_drop hd)
    have h2 : flatDs ((xs.zip ds).map rowD) = true := flatDs_of _ fun d hd => by
      obtain ⟨p, hp, rfl⟩ := List.mem_map.mp hd
      have := fd p.2 (List.of_mem_zip (show (p.1, p.2) ∈ xs.zip ds from hp)).2
      simp [rowD, flatD, flatDs, this]
    simp [flatDs, flatD, h1, h2]
  | doo => show flatDs [_, .tuple ds] = true; simp [flatDs, flatD, f]
  | call =>
    show flatDs (_ :: (ds.take 1 ++ [.tuple (ds.drop 1)])) = true
    refine flatDs_of _ fun d hd => ?_
    rcases List.mem_cons.mp hd with rfl | hd
    · rfl
    rcases List.mem_append.mp hd with hd | hd
    · exact fd d (List.mem_of_mem_take hd)
    · cases List.mem_singleton.mp hd
      show flatDs (ds.drop 1) = true
      exact flatDs_of _ fun d hd => fd d (List.mem_of_mem_drop hd)
  | op o => show flatDs [_, _, .tuple ds] = true; simp [flatDs, flatD, f]
  | plain w => show flatDs (_ :: ds) = true; simpa [flatDs, flatD] using f
theorem flat_enc (t : Tr) : flatD t.enc = true := by
  refine tr_ind (P := fun t => flatD t.enc = true) (fun hd ps ih => ?_) t
  show flatD (encH hd (Tr.encL ps)) = true
  refine flat_encH (flatDs_of _ fun d hd => ?_)
  rw [encL_map] at hd
  obtain ⟨t, m, rfl⟩ := List.mem_map.mp hd
  exact ih t m
theorem flat_encL (ps : List Tr) : flatDs (Tr.encL ps) = true := flatDs_of _ fun d hd => by
  rw [encL_map] at hd
  obtain ⟨t, m, rfl⟩ := List.mem_map.mp hd
  exact flat_enc t
/-! ### that trees can be compared -/
theorem layAll_of : ∀ {ds : List PyData}, (∀ d ∈ ds, PyData.canLay0 d = true) → PyData.canLayAll0 ds = true
  | [], _ => rfl
  | d :: ds, h => by
    show (PyData.canLay0 d && PyData.canLayAll0 ds) = true
    rw [h d List.mem_cons_self, layAll_of fun x hx => h x (List.mem_cons_of_mem _ hx)]
    rfl
theorem depAll_le {n : Nat} : ∀ {ds : List PyData}, (∀ d ∈ ds, d.depth ≤ n) → PyData.depthAll ds ≤ n
  | [], _ => by simp [PyData.depthAll]
  | d :: ds, h => by
    have h1 := h d List.mem_cons_self
    have h2 := depAll_le (ds := ds) fun x hx => h x (List.mem_cons_of_mem _ hx)
    simp only [PyData.depthAll]
    omega
theorem lay_tup {ds : List PyData} (h : ∀ d ∈ ds, PyData.canLay0 d = true) : PyData.canLay0 (.tuple ds) = true := layAll_of h
theorem dep_tup {ds : List PyData} {n : Nat} (h : ∀ d ∈ ds, d.depth ≤ n) : PyData.depth (.tuple ds) ≤ n + 1 := by
  have := depAll_le h
  simp only [PyData.depth]
  omega
theorem dep0_str (x : Str) (n : Nat) : PyData.depth (.str x) ≤ n := by simp [PyData.depth]
theorem dep0_int (x : Int) (n : Nat) : PyData.depth (.int x) ≤ n := by simp [PyData.depth]
/-- a text that may stand in data, and how deep data is -/
structure Lay (n : Nat) (d : PyData) : Prop where
  lay : PyData.canLay0 d = true
  dep : d.depth ≤ n
theorem Lay.mono {n m : Nat} {d : PyData} (h : Lay n d) (k : n ≤ m) : Lay m d := ⟨h.lay, Nat.le_trans h.dep k⟩
theorem Lay.str {x : Str} (h : sok x) (n : Nat) : Lay n (.str x) := ⟨h, dep0_str x n⟩
theorem Lay.int (i : Int) (n : Nat) : Lay n (.int i) := ⟨rfl, dep0_int i n⟩
theorem Lay.tup {n : Nat} {ds : List PyData} (h : ∀ d ∈ ds, Lay n d) : Lay (n + 1) (.tuple ds) := ⟨lay_tup fun d m => (h d m).lay, dep_tup fun d m => (h d m).dep⟩
theorem Lay.lst {n : Nat} {ds : List PyData} (h : ∀ d ∈ ds, Lay n d) : Lay (n + 1) (.list ds) := by
  have h1 : PyData.canLay0 (.list ds) = true := layAll_of fun d m => (h d m).lay
  have h2 := depAll_le fun d m => (h d m).dep
  refine ⟨h1, ?_⟩
  simp only [PyData.depth]
  omega
theorem Lay.sh {n : Nat} {d : PyData} (h : Lay n d) (k : n ≤ 64) : SeqAt.shaped d = true := by
  unfold SeqAt.shaped
  rw [h.lay, decide_eq_true (Nat.le_trans h.dep k)]
  rfl
theorem words_sok : ∀ w ∈ litW ++ oneW ++ bindW ++ plainW, sok w := by
  intro w hw
  unfold litW oneW bindW plainW at hw
  simp only [List.cons_append, List.nil_append, List.mem_cons, List.not_mem_nil, or_false] at hw
  rcases hw with rfl | rfl | rfl | rfl | rfl | rfl | rfl | rfl | rfl | rfl | rfl | rfl | rfl | rfl <;> decide +kernel
theorem mem4 {α : Type} {P : α → Prop} {a b c d : α} (ha : P a) (hb : P b) (hc : P c) (hd : P d) : ∀ x ∈ [a, b, c, d], P x := by
  intro x hx
  simp only [List.mem_cons, List.not_mem_nil, or_false] at hx
  rcases hx with rfl | rfl | rfl | rfl <;> assumption
theorem lay_strs {xs : List Str} (h : ∀ x ∈ xs, sok x) (n : Nat) : Lay (n + 1) (encs xs) := Lay.tup fun d hd => by
  obtain ⟨x, m, rfl⟩ := List.mem_map.mp hd
  exact .str (h x m) n
theorem lay_encH {h : Hd} {ds : List PyData} {n : Nat} (o : hok h ds.length) (f : ∀ d ∈ ds, Lay n d) : Lay (n + 3) (encH h ds) := by
  have up : ∀ d ∈ ds, Lay (n + 2) d := fun d m => (f d m).mono (by omega)
  have hw : ∀ w, (w ∈ litW ∨ w ∈ oneW ∨ w ∈ bindW ∨ w ∈ plainW) → Lay (n + 2) (.str w) := fun w m => .str (words_sok w (by
    simp only [List.mem_append]
    rcases m with m | m | m | m
    · exact .inl (.inl (.inl m))
    · exact .inl (.inl (.inr m))
    · exact .inl (.inr m)
    · exact .inr m)) _
  have c : ∀ {d : PyData} {ds : List PyData}, Lay (n + 2) d → (∀ e ∈ ds, Lay (n + 2) e) → ∀ e ∈ d :: ds, Lay (n + 2) e := fun a b e m => by
    rcases List.mem_cons.mp m with rfl | m
    · exact a
    · exact b e m
  have nil : ∀ e ∈ ([] : List PyData), Lay (n + 2) e := fun e m => by cases m
  have S : ∀ w : Str, sok w → Lay (n + 2) (.str w) := fun w h => .str h _
  cases h with
  | num i => exact .tup (c (S "number" (by decide +kernel)) (c (.int i _) nil))
  | name x => exact .tup (c (S "name" (by decide +kernel)) (c (S x o.2) nil))
  | lit w => exact .tup (c (hw w (.inl o.2)) nil)
  | one w x => exact .tup (c (hw w (.inr (.inl o.2.1))) (c (S x o.2.2) up))
  | fn xs => exact .tup (c (S "fn" (by decide +kernel)) (c (lay_strs o.2.2 (n + 1)) up))
  | bind w xs =>
    refine .tup (c (hw w (.inr (.inr (.inl o.2.1)))) (c (Lay.tup fun d hd => ?_) fun d hd => up d (List.mem_of_mem_drop hd)))
    obtain ⟨p, hp, rfl⟩ := List.mem_map.mp hd
    have hz := List.of_mem_zip (show (p.1, p.2) ∈ xs.zip ds from hp)
    refine Lay.tup fun d hd => ?_
    simp only [List.mem_cons, List.not_mem_nil, or_false] at hd
    rcases hd with rfl | rfl
    · exact .str (o.2.2 _ hz.1) _
    · exact f _ hz.2
  | doo => exact .tup (c (S "do" (by decide +kernel)) (c (Lay.tup (fun d m => (f d m).mono (by omega))) nil))
  | call =>
    refine .tup (c (S "call" (by decide +kernel)) fun d hd => ?_)
    rcases List.mem_append.mp hd with hd | hd
    · exact up d (List.mem_of_mem_take hd)
    · cases List.mem_singleton.mp hd
      exact Lay.tup fun d m => (f d (List.mem_of_mem_drop m)).mono (by omega)
  | op o' => exact .tup (c (S "op" (by decide +kernel)) (c (S o' o) (c (Lay.tup (fun d m => (f d m).mono (by omega))) nil)))
  | plain w => exact .tup (c (hw w (.inr (.inr (.inr o)))) up)
theorem lay_enc : ∀ (n : Nat) (t : Tr), t.ok → t.dep ≤ n → Lay (3 * n) t.enc := by
  intro n
  induction n with
  | zero =>
    intro t _ h
    cases t with
    | mk hd ps => exact absurd h (by show ¬ (Tr.deps ps + 1 ≤ 0); omega)
  | succ n ih =>
    intro t o h
    cases t with
    | mk hd ps =>
      have o' : hok hd ps.length ∧ ps.length ≤ 11 ∧ Tr.oks ps := o
      have : Lay (3 * n + 3) (encH hd (Tr.encL ps)) := lay_encH (by rw [encL_len]; exact o'.1) fun d hd => by
        rw [encL_map] at hd
        obtain ⟨t, m, rfl⟩ := List.mem_map.mp hd
        exact ih t (oks_iff.mp o'.2.2 t m) (dep_mk.mp h t m)
      exact this
end Cm

/-! x in (written words); the items of a tree's tuple -/
namespace Cm
open PySem L2 PySem.Spec PyProof.Rows
/-- written texts -/
inductive StrEs : List Expr → List Str → Prop where
  | nil : StrEs [] []
  | cons {x : Str} {k : Nat} {p : Pos} {es : List Expr} {xs : List Str} (h : StrEs es xs) : StrEs (.Constant (.str x) k p :: es) (x :: xs)
def tVals (vs : List V) : TA := fun _ H Q => Q vs H
section
variable {X : Cx} {e : Expr} {te : TE} {es : List Expr} {ws : List Str} {pos p2 : Pos} {n : Nat}
theorem pa_strs (h : StrEs es ws) : PA X es (tVals (ws.map V.str)) := by
  induction h with
  | nil => exact ⟨fun pos pins s σ H Q I h => pa_nil.run pos pins s σ H Q I h⟩
  | @cons x k p es xs h ih =>
    refine ⟨fun pos pins s σ H Q I q => (pa_cons (te := tC (.str x)) pe_str ih (by rfl)).run pos pins s σ H Q I ?_⟩
    exact q
/-- x in ('a', 'b', ..) -/
def tInW (te : TE) (ws : List Str) : TT := fun σ H Q => te σ H fun x H1 => flatV x = true ∧ ∀ H2, Same H1 H2 → Q (inV x (ws.map V.str)) H2
theorem flat_strV (ws : List Str) : (ws.map V.str).all flatV = true := by
  rw [List.all_eq_true]
  intro x hx
  obtain ⟨w, _, rfl⟩ := List.mem_map.mp hx
  rfl
theorem pt_inW (ha : PE X e te) (he : StrEs es ws) (hl : ws.length ≤ sizeLine) (hm : behindInMarks .In (.Tuple es n p2) = false) : PT X (.Compare e [.In] [.Tuple es n p2] pos) (tInW te ws) := by
  refine ⟨fun pins s σ H Q I h => ?_⟩
  refine wpAny_isTrue_Compare1 (thn (ha.run pins s σ H _ I h) fun v s1 ⟨x, H1, I1, r1, fx, q1⟩ => thn ((pe_tup (pa_strs he)).run pins s1 σ H1 (fun y H2 => y ≠ .non ∧ ∃ p, y = .ref p ∧ H2 p = some (.tup (ws.map V.str)) ∧ Same H1 H2) I1 ?_) fun u s2 ⟨y, H2, I2, r2, _, p, ey, hp, s12⟩ =>
    thn (op_in_seq pins s2 σ H2 x y v u (fun z H3 => ∃ k, z = .bl k ∧ Q k H3) I2 r1 r2 ⟨p, _, ey, .inr (.inl (.inl hp)), fx, flat_strV ws, _, rfl, q1 H2 s12⟩) fun c s3 ⟨z, H3, I3, r3, k, e, q3⟩ => ?_) hm
  · refine ⟨by rw [List.length_map]; exact hl, fun p hp => ⟨(fun z => nomatch z), p, rfl, upd_same, same_new hp⟩⟩
  · subst e
    cases r3
    exact wpAny_truthy_bool ⟨H3, I3, q3⟩
end
/-- x in ('a', ..) as a value -/
def tInWV (te : TE) (ws : List Str) : TE := fun σ H Q => te σ H fun x H1 => flatV x = true ∧ ∀ H2, Same H1 H2 → Q (.bl (inV x (ws.map V.str))) H2
section
variable {X : Cx} {e : Expr} {te : TE} {es : List Expr} {ws : List Str} {pos p2 : Pos} {n : Nat}
theorem pe_inW (ha : PE X e te) (he : StrEs es ws) (hl : ws.length ≤ sizeLine) (hm : behindInMarks .In (.Tuple es n p2) = false) : PE X (.Compare e [.In] [.Tuple es n p2] pos) (tInWV te ws) := by
  refine ⟨fun pins s σ H Q I h => ?_⟩
  refine wpAny_Compare1 (thn (ha.run pins s σ H _ I h) fun v s1 ⟨x, H1, I1, r1, fx, q1⟩ => thn ((pe_tup (pa_strs he)).run pins s1 σ H1 (fun y H2 => ∃ p, y = .ref p ∧ H2 p = some (.tup (ws.map V.str)) ∧ Same H1 H2) I1 ?_) fun u s2 ⟨y, H2, I2, r2, p, ey, hp, s12⟩ =>
    op_in_seq pins s2 σ H2 x y v u Q I2 r1 r2 ⟨p, _, ey, .inr (.inl (.inl hp)), fx, flat_strV ws, q1 H2 s12⟩) hm
  exact ⟨by rw [List.length_map]; exact hl, fun p hp => ⟨p, rfl, upd_same, same_new hp⟩⟩
end
/-! ### the items of a tree's tuple -/
def wd : Hd → Str
  | .num _ => "number"
  | .name _ => "name"
  | .lit w => w
  | .one w _ => w
  | .fn _ => "fn"
  | .bind w _ => w
  | .doo => "do"
  | .call => "call"
  | .op _ => "op"
  | .plain w => w
def Items (K : PySem.W.Frag) (H : Hp) (ds : List PyData) : Hd → List V → Prop
  | .num i, its => its = [.str "number", .int i]
  | .name x, its => its = [.str "name", .str x]
  | .lit w, its => its = [.str w]
  | .one w x, its => ∃ vs, its = .str w :: .str x :: vs ∧ DpAll K H vs ds
  | .fn xs, its => ∃ q vs, its = .str "fn" :: .ref q :: vs ∧ SqT K H q (xs.map V.str) ∧ DpAll K H vs ds
  | .bind w xs, its => ∃ q rows vs, its = .str w :: .ref q :: vs ∧ SqT K H q rows ∧ DpAll K H rows ((xs.zip ds).map rowD) ∧ DpAll K H vs (ds.drop xs.length)
  | .doo, its => ∃ q vs, its = [.str "do", .ref q] ∧ SqT K H q vs ∧ DpAll K H vs ds
  | .call, its => ∃ q us vs, its = .str "call" :: (us ++ [.ref q]) ∧ DpAll K H us (ds.take 1) ∧ SqT K H q vs ∧ DpAll K H vs (ds.drop 1)
  | .op o, its => ∃ q vs, its = [.str "op", .str o, .ref q] ∧ SqT K H q vs ∧ DpAll K H vs ds
  | .plain w, its => ∃ vs, its = .str w :: vs ∧ DpAll K H vs ds
theorem dp_str {K : PySem.W.Frag} {H : Hp} {v : V} {x : Str} (h : Dp K H v (.str x)) : v = .str x := by cases h; rfl
theorem dp_int {K : PySem.W.Frag} {H : Hp} {v : V} {x : Int} (h : Dp K H v (.int x)) : v = .int x := by cases h; rfl
theorem dp_tup {K : PySem.W.Frag} {H : Hp} {v : V} {ds : List PyData} (h : Dp K H v (.tuple ds)) : ∃ a its, v = .ref a ∧ SqT K H a its ∧ DpAll K H its ds := by
  cases h with
  | @tup a its ds hs ha => exact ⟨a, its, rfl, hs, ha⟩
theorem dpAll_strs_inv {K : PySem.W.Frag} {H : Hp} : ∀ {xs : List Str} {vs : List V}, DpAll K H vs (xs.map PyData.str) → vs = xs.map V.str
  | [], _, h => by cases h; rfl
  | x :: xs, _, h => by
    cases h with
    | cons h1 h2 => rw [dp_str h1, dpAll_strs_inv h2]; rfl
theorem dpAll_strs {K : PySem.W.Frag} {H : Hp} : ∀ xs : List Str, DpAll K H (xs.map V.str) (xs.map PyData.str)
  | [] => .nil
  | x :: xs => .cons (.str x) (dpAll_strs xs)
theorem dpAll_split {K : PySem.W.Frag} {H : Hp} : ∀ {ds es : List PyData} {vs : List V}, DpAll K H vs (ds ++ es) → ∃ us ws, vs = us ++ ws ∧ DpAll K H us ds ∧ DpAll K H ws es
  | [], es, vs, h => ⟨[], vs, rfl, .nil, h⟩
  | d :: ds, es, vs, h => by
    cases h with
    | cons h1 h2 =>
      obtain ⟨us, ws, rfl, a, b⟩ := dpAll_split h2
      exact ⟨_ :: us, ws, rfl, .cons h1 a, b⟩
theorem view {K : PySem.W.Frag} {H : Hp} {v : V} {h : Hd} {ds : List PyData} (x : Dp K H v (encH h ds)) : ∃ a its, v = .ref a ∧ SqT K H a its ∧ Items K H ds h its := by
  cases h with
  | num i =>
    obtain ⟨a, its, rfl, hs, ha⟩ := dp_tup x
    cases ha with
    | cons h1 h2 => cases h2 with
      | cons h3 h4 =>
        cases h4
        exact ⟨a, _, rfl, hs, by rw [dp_str h1, dp_int h3]; rfl⟩
  | name i =>
    obtain ⟨a, its, rfl, hs, ha⟩ := dp_tup x
    cases ha with
    | cons h1 h2 => cases h2 with
      | cons h3 h4 =>
        cases h4
        exact ⟨a, _, rfl, hs, by rw [dp_str h1, dp_str h3]; rfl⟩
  | lit i =>
    obtain ⟨a, its, rfl, hs, ha⟩ := dp_tup x
    cases ha with
    | cons h1 h2 =>
      cases h2
      exact ⟨a, _, rfl, hs, by rw [dp_str h1]; rfl⟩
  | one w i =>
    obtain ⟨a, its, rfl, hs, ha⟩ := dp_tup x
    cases ha with
    | cons h1 h2 => cases h2 with
      | cons h3 h4 => exact ⟨a, _, rfl, hs, _, by rw [dp_str h1, dp_str h3], h4⟩
  | fn xs =>
    obtain ⟨a, its, rfl, hs, ha⟩ := dp_tup x
    cases ha with
    | cons h1 h2 => cases h2 with
      | cons h3 h4 =>
        obtain ⟨q, vs, rfl, hq, hv⟩ := dp_tup h3
        rw [dpAll_strs_inv hv] at hq
        exact ⟨a, _, rfl, hs, q, _, by rw [dp_str h1], hq, h4⟩
  | bind w xs =>
    obtain ⟨a, its, rfl, hs, ha⟩ := dp_tup x
    cases ha with
    | cons h1 h2 => cases h2 with
      | cons h3 h4 =>
        obtain ⟨q, vs, rfl, hq, hv⟩ := dp_tup h3
        exact ⟨a, _, rfl, hs, q, vs, _, by rw [dp_str h1], hq, hv, h4⟩
  | doo =>
    obtain ⟨a, its, rfl, hs, ha⟩ := dp_tup x
    cases ha with
    | cons h1 h2 => cases h2 with
      | cons h3 h4 =>
        cases h4
        obtain ⟨q, vs, rfl, hq, hv⟩ := dp_tup h3
        exact ⟨a, _, rfl, hs, q, vs, by rw [dp_str h1], hq, hv⟩
  | call =>
    obtain ⟨a, its, rfl, hs, ha⟩ := dp_tup x
    cases ha with
    | cons h1 h2 =>
      obtain ⟨us, ws, rfl, h3, h4⟩ := dpAll_split h2
      cases h4 with
      | cons h5 h6 =>
        cases h6
        obtain ⟨q, vs, rfl, hq, hv⟩ := dp_tup h5
        exact ⟨a, _, rfl, hs, q, us, vs, by rw [dp_str h1], h3, hq, hv⟩
  | op o =>
    obtain ⟨a, its, rfl, hs, ha⟩ := dp_tup x
    cases ha with
    | cons h1 h2 => cases h2 with
      | cons h3 h4 => cases h4 with
        | cons h5 h6 =>
          cases h6
          obtain ⟨q, vs, rfl, hq, hv⟩ := dp_tup h5
          exact ⟨a, _, rfl, hs, q, vs, by rw [dp_str h1, dp_str h3], hq, hv⟩
  | plain w =>
    obtain ⟨a, its, rfl, hs, ha⟩ := dp_tup x
    cases ha with
    | cons h1 h2 => exact ⟨a, _, rfl, hs, _, by rw [dp_str h1], h2⟩
theorem unview {K : PySem.W.Frag} {H : Hp} {a : Addr} {its : List V} {h : Hd} {ds : List PyData} (hs : SqT K H a its) (x : Items K H ds h its) : Dp K H (.ref a) (encH h ds) := by
  cases h with
  | num i => obtain rfl := (show its = _ from x); exact .tup hs (.cons (.str _) (.cons (.int _) .nil))
  | name i => obtain rfl := (show its = _ from x); exact .tup hs (.cons (.str _) (.cons (.str _) .nil))
  | lit i => obtain rfl := (show its = _ from x); exact .tup hs (.cons (.str _) .nil)
  | one w i => obtain ⟨vs, rfl, hv⟩ := x; exact .tup hs (.cons (.str _) (.cons (.str _) hv))
  | fn xs => obtain ⟨q, vs, rfl, hq, hv⟩ := x; exact .tup hs (.cons (.str _) (.cons (.tup hq (dpAll_strs xs)) hv))
  | bind w xs => obtain ⟨q, rows, vs, rfl, hq, hr, hv⟩ := x; exact .tup hs (.cons (.str _) (.cons (.tup hq hr) hv))
  | doo => obtain ⟨q, vs, rfl, hq, hv⟩ := x; exact .tup hs (.cons (.str _) (.cons (.tup hq hv) .nil))
  | call => obtain ⟨q, us, vs, rfl, hu, hq, hv⟩ := x; exact .tup hs (.cons (.str _) (DpAll.app hu (.cons (.tup hq hv) .nil)))
  | op o => obtain ⟨q, vs, rfl, hq, hv⟩ := x; exact .tup hs (.cons (.str _) (.cons (.str _) (.cons (.tup hq hv) .nil)))
  | plain w => obtain ⟨vs, rfl, hv⟩ := x; exact .tup hs (.cons (.str _) hv)
theorem Items.head {K : PySem.W.Frag} {H : Hp} {h : Hd} {ds : List PyData} {its : List V} (x : Items K H ds h its) : atI its 0 = some (.str (wd h)) := by
  refine atI_nat (j := 0) ?_
  cases h with
  | num i => obtain rfl := (show its = _ from x); rfl
  | name i => obtain rfl := (show its = _ from x); rfl
  | lit i => obtain rfl := (show its = _ from x); rfl
  | one w i => obtain ⟨vs, rfl, _⟩ := x; rfl
  | fn xs => obtain ⟨q, vs, rfl, _⟩ := x; rfl
  | bind w xs => obtain ⟨q, rows, vs, rfl, _⟩ := x; rfl
  | doo => obtain ⟨q, vs, rfl, _⟩ := x; rfl
  | call => obtain ⟨q, us, vs, rfl, _⟩ := x; rfl
  | op o => obtain ⟨q, vs, rfl, _⟩ := x; rfl
  | plain w => obtain ⟨vs, rfl, _⟩ := x; rfl
theorem Items.same {K : PySem.W.Frag} {H H' : Hp} {h : Hd} {ds : List PyData} {its : List V} (x : Items K H ds h its) (s : Same H H') : Items K H' ds h its := by
  cases h with
  | num i => exact x
  | name i => exact x
  | lit i => exact x
  | one w i => obtain ⟨vs, e, hv⟩ := x; exact ⟨vs, e, dps_same s _ _ hv⟩
  | fn xs => obtain ⟨q, vs, e, hq, hv⟩ := x; exact ⟨q, vs, e, sqt_same s hq, dps_same s _ _ hv⟩
  | bind w xs => obtain ⟨q, rows, vs, e, hq, hr, hv⟩ := x; exact ⟨q, rows, vs, e, sqt_same s hq, dps_same s _ _ hr, dps_same s _ _ hv⟩
  | doo => obtain ⟨q, vs, e, hq, hv⟩ := x; exact ⟨q, vs, e, sqt_same s hq, dps_same s _ _ hv⟩
  | call => obtain ⟨q, us, vs, e, hu, hq, hv⟩ := x; exact ⟨q, us, vs, e, dps_same s _ _ hu, sqt_same s hq, dps_same s _ _ hv⟩
  | op o => obtain ⟨q, vs, e, hq, hv⟩ := x; exact ⟨q, vs, e, sqt_same s hq, dps_same s _ _ hv⟩
  | plain w => obtain ⟨vs, e, hv⟩ := x; exact ⟨vs, e, dps_same s _ _ hv⟩
/-! ### what the word of a head is -/
def kd : Hd → Nat
  | .num _ => 0
  | .name _ => 1
  | .lit _ => 2
  | .one _ _ => 3
  | .fn _ => 4
  | .bind _ _ => 5
  | .doo => 6
  | .call => 7
  | .op _ => 8
  | .plain _ => 9
def wordsOf : Nat → List Str
  | 0 => ["number"]
  | 1 => ["name"]
  | 2 => litW
  | 3 => oneW
  | 4 => ["fn"]
  | 5 => bindW
  | 6 => ["do"]
  | 7 => ["call"]
  | 8 => ["op"]
  | _ => plainW
theorem wd_mem {h : Hd} {n : Nat} (o : hok h n) : kd h < 10 ∧ wd h ∈ wordsOf (kd h) := by
  cases h with
  | num i => exact ⟨Nat.le_of_ble_eq_true rfl, List.mem_singleton.mpr rfl⟩
  | name i => exact ⟨Nat.le_of_ble_eq_true rfl, List.mem_singleton.mpr rfl⟩
  | lit w => exact ⟨Nat.le_of_ble_eq_true rfl, o.2⟩
  | one w x => exact ⟨Nat.le_of_ble_eq_true rfl, o.2.1⟩
  | fn xs => exact ⟨Nat.le_of_ble_eq_true rfl, List.mem_singleton.mpr rfl⟩
  | bind w xs => exact ⟨Nat.le_of_ble_eq_true rfl, o.2.1⟩
  | doo => exact ⟨Nat.le_of_ble_eq_true rfl, List.mem_singleton.mpr rfl⟩
  | call => exact ⟨Nat.le_of_ble_eq_true rfl, List.mem_singleton.mpr rfl⟩
  | op i => exact ⟨Nat.le_of_ble_eq_true rfl, List.mem_singleton.mpr rfl⟩
  | plain w => exact ⟨Nat.le_of_ble_eq_true rfl, o⟩
/-- what is asked of the word alone -/
theorem by_kind (p : Str → Bool) (k : Nat → Bool) (hc : ∀ c < 10, ∀ w ∈ wordsOf c, p w = k c) {h : Hd} {n : Nat} (o : hok h n) : p (wd h) = k (kd h) :=
  hc _ (wd_mem o).1 _ (wd_mem o).2
def kF (h : Hd) : Bool := kd h == 3 || kd h == 4
def kB (h : Hd) : Bool := kd h == 5
def kP (h : Hd) : Bool := kd h == 9
def kL (h : Hd) : Bool := kd h < 3
def isDo (h : Hd) : Bool := kd h == 6
def isCall (h : Hd) : Bool := kd h == 7
def isOp (h : Hd) : Bool := kd h == 8
theorem in_words {ws : List Str} {x : Str} : inV (.str x) (ws.map V.str) = decide (x ∈ ws) := by
  induction ws with
  | nil => rfl
  | cons w ws ih =>
    show (eqV (V.str w) (V.str x) || inV (.str x) (ws.map V.str)) = _
    rw [ih]
    have e : eqV (V.str w) (V.str x) = decide (x = w) := by
      show (w == x) = _
      by_cases q : x = w
      · rw [q]; simp
      · have : ¬ w = x := fun z => q z.symm
        simp [q, this]
    rw [e]
    by_cases q : x = w <;> simp [q]
section
variable {h : Hd} {n : Nat}
theorem in_F (o : hok h n) : inV (.str (wd h)) ((["fn", "set", "keep", "once", "take"] : List Str).map V.str) = kF h :=
  by_kind (fun w => inV (.str w) ((["fn", "set", "keep", "once", "take"] : List Str).map V.str)) (fun k => k == 3 || k == 4) (by decide +kernel) o
theorem in_B (o : hok h n) : inV (.str (wd h)) ((["let", "rec"] : List Str).map V.str) = kB h :=
  by_kind (fun w => inV (.str w) ((["let", "rec"] : List Str).map V.str)) (fun k => k == 5) (by decide +kernel) o
theorem in_P (o : hok h n) : inV (.str (wd h)) ((["if", "mark", "wind", "show"] : List Str).map V.str) = kP h :=
  by_kind (fun w => inV (.str w) ((["if", "mark", "wind", "show"] : List Str).map V.str)) (fun k => k == 9) (by decide +kernel) o
theorem in_L (o : hok h n) : inV (.str (wd h)) ((["number", "true", "false", "none", "name", "ask"] : List Str).map V.str) = kL h :=
  by_kind (fun w => inV (.str w) ((["number", "true", "false", "none", "name", "ask"] : List Str).map V.str)) (fun k => k < 3) (by decide +kernel) o
theorem eq_do (o : hok h n) : decide (V.str (wd h) = V.str "do") = isDo h := by
  rw [decS]
  exact by_kind (fun w => decide (w = "do")) (fun k => k == 6) (by decide +kernel) o
theorem eq_call (o : hok h n) : decide (V.str (wd h) = V.str "call") = isCall h := by
  rw [decS]
  exact by_kind (fun w => decide (w = "call")) (fun k => k == 7) (by decide +kernel) o
theorem eq_op (o : hok h n) : decide (V.str (wd h) = V.str "op") = isOp h := by
  rw [decS]
  exact by_kind (fun w => decide (w = "op")) (fun k => k == 8) (by decide +kernel) o
end
end Cm

/-! slices and sums of tuples whichever object they are; rules with K said -/
namespace Cm
open PySem L2 PySem.Spec PyProof.Rows
theorem cut_from {xs : List V} {k : Nat} (h : k ≤ xs.length) : cutV xs (some (k : Int)) Option.none = xs.drop k := by
  unfold cutV
  rw [HT.sIx_nat, HT.sIx_none, Nat.min_eq_left h]
  exact List.take_of_length_le (by rw [List.length_drop]; omega)
theorem cut_to {xs : List V} {k : Nat} (h : k ≤ xs.length) : cutV xs Option.none (some (k : Int)) = xs.take k := by
  unfold cutV
  rw [HT.sIx_nat, HT.sIx_none, Nat.min_eq_left h, List.drop_zero, Nat.sub_zero]
/-- t[k:] of a tuple: whichever object it is -/
theorem sl_from {K : PySem.W.Frag} {a : Addr} {xs : List V} {k : Nat} {σ : L2.St} {H : Hp} {Q : VK} (hs : SqT K H a xs) (hk : k ≤ xs.length) (h : ∀ t H', Same H H' → SqT K H' t (xs.drop k) → Q (.ref t) H') :
    (tNoPart σ H fun u H1 => rSlA K (.ref a) (some (k : Int)) u H1 Q) := by
  refine ⟨a, xs, rfl, hs, fun q => ?_, fun _ p hp => ?_⟩
  · rw [HT.sIx_nat, Nat.min_eq_left hk] at q
    have : k = 0 := q.1
    subst this
    exact h a H (Same.refl H) hs
  · rw [cut_from hk]
    exact h p _ (same_new hp) (.inl (.inl upd_same))
theorem sl_to {K : PySem.W.Frag} {a : Addr} {xs : List V} {k : Nat} {H : Hp} {Q : VK} (hs : SqT K H a xs) (hk : k ≤ xs.length) (h : ∀ t H', Same H H' → SqT K H' t (xs.take k) → Q (.ref t) H') :
    rSlA K (.ref a) Option.none (some (k : Int)) H Q := by
  refine ⟨a, xs, rfl, hs, fun q => ?_, fun _ p hp => ?_⟩
  · rw [HT.sIx_nat, Nat.min_eq_left hk] at q
    have e : xs.take k = xs := List.take_of_length_le (by rw [q.2]; exact Nat.le_refl _)
    refine h a H (Same.refl H) ?_
    rw [e]
    exact hs
  · rw [cut_to hk]
    exact h p _ (same_new hp) (.inl (.inl upd_same))
theorem cat_any {K : PySem.W.Frag} {a b : Addr} {xs ys : List V} {H : Hp} {Q : VK} (ha : SqT K H a xs) (hb : SqT K H b ys) (hl : xs.length + ys.length ≤ sizeLine)
    (h : ∀ t H', Same H H' → SqT K H' t (xs ++ ys) → Q (.ref t) H') : rCatA K (.ref a) (.ref b) H Q := by
  refine ⟨a, b, xs, ys, rfl, rfl, ha, hb, hl, fun e => ?_, fun _ e => ?_, fun _ _ p hp => h p _ (same_new hp) (.inl (.inl upd_same))⟩
  · exact h b H (Same.refl H) (by rw [e]; exact hb)
  · exact h a H (Same.refl H) (by rw [e, List.append_nil]; exact ha)
theorem range_map {α β : Type} (f : α → β) (l : List α) : (List.range l.length).filterMap (fun i => (l[i]?).map f) = l.map f := by
  induction l with
  | nil => rfl
  | cons a l ih =>
    rw [List.length_cons, List.range_succ_eq_map, List.filterMap_cons]
    simp only [List.getElem?_cons_zero, Option.map_some, List.filterMap_map]
    rw [List.map_cons, ← ih]
    congr 1
theorem ke_tupleOf {X : Cx} {K : PySem.W.Frag} {a : Expr} {ta : TE} {p pos : Pos} (hg : Gl X "tuple") (hm : X.mg "tuple" = none) (ha : PE X a ta) (h : X.K = K := by rfl) (na : starEach [a] X.env = (false, eval a X.env) :: starEach [] X.env := by rfl) :
    PE X (.Call (.Name "tuple" p) [a] [] pos) (tThen ta (kTup K)) := by
  subst h
  exact pe_tupleOf hg hm ha na
theorem ne_same' {d : PyData} (h : SeqAt.shaped d = true) : (!PyData.eqv d d) = false := by
  rw [SeqAt.eqv_refl d (SeqAt.canLay_of_shaped h)]
  rfl
theorem kc_isi {X : Cx} {K : PySem.W.Frag} (h : X.K = K := by rfl) : CallR X (.builtin "isinstance") (rIsi K) := by subst h; exact call_isi
theorem one_of {α : Type} {xs : List α} (h : xs.length = 1) : ∃ x, xs = [x] := by
  cases xs with
  | nil => simp at h
  | cons a r =>
    cases r with
    | nil => exact ⟨a, rfl⟩
    | cons b r => simp at h
theorem dpAll_one {K : PySem.W.Frag} {H : Hp} {vs : List V} {d : PyData} (h : DpAll K H vs [d]) : ∃ v, vs = [v] ∧ Dp K H v d := by
  cases h with
  | cons h1 h2 =>
    cases h2
    exact ⟨_, rfl, h1⟩
theorem dps_cat {K : PySem.W.Frag} {H : Hp} {ds es : List PyData} {vs us : List V} (h1 : DpAll K H vs ds) (h2 : DpAll K H us es) : DpAll K H (vs ++ us) (ds ++ es) := DpAll.app h1 h2
theorem free_of {H H' : Hp} {p : Addr} (s : Same H H') (h : H' p = Option.none) : H p = Option.none := by
  cases e : H p with
  | none => rfl
  | some o =>
    have := s _ _ e
    rw [h] at this
    cases this
end Cm

/-! paths of trees -/
namespace Cm
open PySem L2 PySem.Spec PyProof.Rows
def Tr.hd : Tr → Hd
  | .mk h _ => h
def Tr.ps : Tr → List Tr
  | .mk _ ps => ps
def Tr.at : List Int → Tr → Option Tr
  | [], t => some t
  | i :: r, .mk _ ps => if 0 ≤ i then (ps[i.toNat]?).bind (Tr.at r) else none
def Tr.put : List Int → Tr → Tr → Tr
  | [], _, o => o
  | i :: r, .mk h ps, o => match ps[i.toNat]? with
    | some p => .mk h (ps.set i.toNat (Tr.put r p o))
    | none => .mk h ps
mutual
def Tr.paths : Tr → List (List Int)
  | .mk _ ps => [] :: Tr.pathsL 0 ps
def Tr.pathsL : Nat → List Tr → List (List Int)
  | _, [] => []
  | i, t :: ts => t.paths.map (fun p => ((i : Nat) : Int) :: p) ++ Tr.pathsL (i + 1) ts
end
mutual
def Tr.size : Tr → Nat
  | .mk _ ps => Tr.sizes ps + 1
def Tr.sizes : List Tr → Nat
  | [] => 0
  | t :: ts => t.size + Tr.sizes ts
end
theorem at_snoc : ∀ (p : List Int) (i : Int) (t : Tr), Tr.at (p ++ [i]) t = (Tr.at p t).bind (Tr.at [i])
  | [], i, t => rfl
  | j :: r, i, .mk h ps => by
    show (if 0 ≤ j then (ps[j.toNat]?).bind (Tr.at (r ++ [i])) else none) = ((if 0 ≤ j then (ps[j.toNat]?).bind (Tr.at r) else none) : Option Tr).bind (Tr.at [i])
    by_cases q : 0 ≤ j
    · rw [if_pos q, if_pos q]
      cases ps[j.toNat]? with
      | none => rfl
      | some p => exact at_snoc r i p
    · rw [if_neg q, if_neg q]
      rfl
theorem at_one {i : Nat} {h : Hd} {ps : List Tr} : Tr.at [((i : Nat) : Int)] (.mk h ps) = ps[i]? := by
  show (if 0 ≤ ((i : Nat) : Int) then (ps[((i : Nat) : Int).toNat]?).bind (Tr.at []) else none) = _
  rw [if_pos (by omega), Int.toNat_natCast]
  cases ps[i]? <;> rfl
theorem at_ok : ∀ (p : List Int) {t s : Tr}, t.ok → Tr.at p t = some s → s.ok
  | [], t, s, o, e => by cases e; exact o
  | i :: r, .mk h ps, s, o, e => by
    have e' : (if 0 ≤ i then (ps[i.toNat]?).bind (Tr.at r) else none) = some s := e
    by_cases q : 0 ≤ i
    · rw [if_pos q] at e'
      cases hp : ps[i.toNat]? with
      | none => rw [hp] at e'; cases e'
      | some p =>
        rw [hp] at e'
        have o' : hok h ps.length ∧ ps.length ≤ 11 ∧ Tr.oks ps := o
        exact at_ok r (oks_iff.mp o'.2.2 p (List.mem_of_getElem? hp)) e'
    · rw [if_neg q] at e'
      cases e'
theorem at_dep : ∀ (p : List Int) {t s : Tr}, Tr.at p t = some s → s.dep + p.length ≤ t.dep
  | [], t, s, e => by cases e; exact Nat.le_refl _
  | i :: r, .mk h ps, s, e => by
    have e' : (if 0 ≤ i then (ps[i.toNat]?).bind (Tr.at r) else none) = some s := e
    by_cases q : 0 ≤ i
    · rw [if_pos q] at e'
      cases hp : ps[i.toNat]? with
      | none => rw [hp] at e'; cases e'
      | some p =>
        rw [hp] at e'
        have h1 := at_dep r (t := p) e'
        have h2 := deps_le.mp (Nat.le_refl (Tr.deps ps)) p (List.mem_of_getElem? hp)
        show s.dep + (r.length + 1) ≤ Tr.deps ps + 1
        omega
    · rw [if_neg q] at e'
      cases e'
theorem pathsL_snoc (t : Tr) : ∀ (ts : List Tr) (i : Nat), Tr.pathsL i (ts ++ [t]) = Tr.pathsL i ts ++ t.paths.map (fun p => (((i + ts.length : Nat)) : Int) :: p)
  | [], i => by
    show t.paths.map _ ++ [] = [] ++ _
    simp
  | a :: ts, i => by
    show a.paths.map _ ++ Tr.pathsL (i + 1) (ts ++ [t]) = (a.paths.map _ ++ Tr.pathsL (i + 1) ts) ++ _
    rw [pathsL_snoc t ts (i + 1), List.append_assoc, List.length_cons, show i + 1 + ts.length = i + (ts.length + 1) by omega]
mutual
theorem paths_len : ∀ t : Tr, t.paths.length = t.size
  | .mk h ps => by
    show (Tr.pathsL 0 ps).length + 1 = Tr.sizes ps + 1
    rw [pathsL_len 0 ps]
theorem pathsL_len : ∀ (i : Nat) (ts : List Tr), (Tr.pathsL i ts).length = Tr.sizes ts
  | _, [] => rfl
  | i, t :: ts => by
    show (t.paths.map _ ++ Tr.pathsL (i + 1) ts).length = t.size + Tr.sizes ts
    rw [List.length_append, List.length_map, paths_len t, pathsL_len (i + 1) ts]
end
theorem pathsL_mem {q : List Int} : ∀ (ts : List Tr) (i : Nat), q ∈ Tr.pathsL i ts → ∃ (j : Nat) (t : Tr) (p : List Int), ts[j]? = some t ∧ p ∈ t.paths ∧ q = ((i + j : Nat) : Int) :: p
  | [], i, m => by cases m
  | a :: ts, i, m => by
    have m' : q ∈ a.paths.map (fun p => ((i : Nat) : Int) :: p) ++ Tr.pathsL (i + 1) ts := m
    rcases List.mem_append.mp m' with m | m
    · obtain ⟨p, hp, rfl⟩ := List.mem_map.mp m
      exact ⟨0, a, p, rfl, hp, rfl⟩
    · obtain ⟨j, t, p, e1, e2, e3⟩ := pathsL_mem ts (i + 1) m
      exact ⟨j + 1, t, p, by simpa using e1, e2, by rw [e3]; congr 2; omega⟩
theorem paths_at : ∀ (n : Nat) (t : Tr), t.dep ≤ n → ∀ p ∈ t.paths, ∃ s, Tr.at p t = some s := by
  intro n
  induction n with
  | zero =>
    intro t h
    cases t with
    | mk hd ps => exact absurd h (by show ¬ (Tr.deps ps + 1 ≤ 0); omega)
  | succ n ih =>
    intro t h p hp
    cases t with
    | mk hd ps =>
      have hp' : p ∈ ([] : List Int) :: Tr.pathsL 0 ps := hp
      rcases List.mem_cons.mp hp' with rfl | hp'
      · exact ⟨_, rfl⟩
      · obtain ⟨j, t, q, e1, e2, rfl⟩ := pathsL_mem ps 0 hp'
        obtain ⟨s, es⟩ := ih t (dep_mk.mp h t (List.mem_of_getElem? e1)) q e2
        refine ⟨s, ?_⟩
        show (if 0 ≤ ((0 + j : Nat) : Int) then (ps[((0 + j : Nat) : Int).toNat]?).bind (Tr.at q) else none) = some s
        rw [if_pos (by omega), Nat.zero_add, Int.toNat_natCast, e1]
        exact es
theorem paths_size : ∀ (n : Nat) (t : Tr), t.dep ≤ n → ∀ p ∈ t.paths, p.length < t.dep := by
  intro n t h p hp
  obtain ⟨s, es⟩ := paths_at n t h p hp
  have := at_dep p es
  have : 1 ≤ s.dep := by cases s with | mk hd ps => show 1 ≤ Tr.deps ps + 1; omega
  omega
def pathI (x : List Int) : PyData := .tuple (x.map PyData.int)
theorem flat_pathI (xs : List (List Int)) : flatDs (xs.map pathI) = true := flatDs_of _ fun d hd => by
  obtain ⟨x, _, rfl⟩ := List.mem_map.mp hd
  exact flatDs_ints x
theorem dp_pathI {K : PySem.W.Frag} {H : Hp} {t : Addr} {x : List Int} (h : SqT K H t (x.map V.int)) : Dp K H (.ref t) (pathI x) := .tup h (dpAll_ints x)
theorem dpAll_ints_inv {K : PySem.W.Frag} {H : Hp} : ∀ {x : List Int} {vs : List V}, DpAll K H vs (x.map PyData.int) → vs = x.map V.int
  | [], _, h => by cases h; rfl
  | i :: x, _, h => by
    cases h with
    | cons h1 h2 => rw [dp_int h1, dpAll_ints_inv h2]; rfl
theorem pathI_inv {K : PySem.W.Frag} {H : Hp} {v : V} {x : List Int} (h : Dp K H v (pathI x)) : ∃ t, v = .ref t ∧ SqT K H t (x.map V.int) := by
  obtain ⟨a, its, rfl, hs, ha⟩ := dp_tup h
  rw [dpAll_ints_inv ha] at hs
  exact ⟨a, rfl, hs⟩
end Cm

/-! keep forms of trees; once in their place -/
namespace Cm
open PySem L2 PySem.Spec PyProof.Rows
def isKeep : Hd → Bool
  | .one w _ => decide (w = "keep")
  | _ => false
theorem eq_keep {h : Hd} {n : Nat} (o : hok h n) : decide (V.str (wd h) = V.str "keep") = isKeep h := by
  have other : kd h ≠ 3 → decide (wd h = "keep") = false := fun q => by
    have key : ∀ c < 10, c ≠ 3 → ∀ w ∈ wordsOf c, decide (w = ("keep" : Str)) = false := by decide +kernel
    exact key _ (wd_mem o).1 q _ (wd_mem o).2
  rw [decS]
  cases h with
  | one w x => rfl
  | num i => exact other (Nat.ne_of_beq_eq_false rfl)
  | name i => exact other (Nat.ne_of_beq_eq_false rfl)
  | lit i => exact other (Nat.ne_of_beq_eq_false rfl)
  | fn i => exact other (Nat.ne_of_beq_eq_false rfl)
  | bind i _ => exact other (Nat.ne_of_beq_eq_false rfl)
  | doo => exact other (Nat.ne_of_beq_eq_false rfl)
  | call => exact other (Nat.ne_of_beq_eq_false rfl)
  | op i => exact other (Nat.ne_of_beq_eq_false rfl)
  | plain i => exact other (Nat.ne_of_beq_eq_false rfl)
def keepAt (t : Tr) (p : List Int) : Bool := match Tr.at p t with
  | some s => isKeep s.hd
  | none => false
def keepPaths (t : Tr) : List (List Int) := t.paths.filter (keepAt t)
def keepL : Nat → List Tr → List (List Int)
  | _, [] => []
  | i, t :: ts => (keepPaths t).map (fun p => ((i : Nat) : Int) :: p) ++ keepL (i + 1) ts
theorem keepAt_cons {h : Hd} {ps : List Tr} {j : Nat} {t : Tr} (e : ps[j]? = some t) (p : List Int) : keepAt (.mk h ps) (((j : Nat) : Int) :: p) = keepAt t p := by
  unfold keepAt
  show (match (if 0 ≤ ((j : Nat) : Int) then (ps[((j : Nat) : Int).toNat]?).bind (Tr.at p) else none : Option Tr) with | some s => isKeep s.hd | none => false) = _
  rw [if_pos (by omega), Int.toNat_natCast, e]
  rfl
theorem filter_pathsL (h : Hd) : ∀ (ts pre : List Tr), (Tr.pathsL pre.length ts).filter (keepAt (.mk h (pre ++ ts))) = keepL pre.length ts
  | [], pre => rfl
  | t :: ts, pre => by
    show (t.paths.map (fun p => ((pre.length : Nat) : Int) :: p) ++ Tr.pathsL (pre.length + 1) ts).filter _ = (keepPaths t).map _ ++ keepL (pre.length + 1) ts
    have ih := filter_pathsL h ts (pre ++ [t])
    rw [List.length_append, List.length_singleton, List.append_assoc] at ih
    rw [List.filter_append]
    have e2 : pre ++ t :: ts = pre ++ ([t] ++ ts) := rfl
    rw [e2, ih]
    congr 1
    rw [List.filter_map]
    congr 1
    unfold keepPaths
    refine List.filter_congr fun p _ => ?_
    show keepAt (.mk h (pre ++ ([t] ++ ts))) (((pre.length : Nat) : Int) :: p) = keepAt t p
    exact keepAt_cons (by rw [List.getElem?_append_right (Nat.le_refl _), Nat.sub_self]; rfl) p
theorem keepPaths_mk (h : Hd) (ps : List Tr) : keepPaths (.mk h ps) = (if isKeep h = true then [[]] else []) ++ keepL 0 ps := by
  unfold keepPaths
  show (([] : List Int) :: Tr.pathsL 0 ps).filter (keepAt (.mk h ps)) = _
  have e := filter_pathsL h ps []
  simp only [List.nil_append, List.length_nil] at e
  rw [List.filter_cons, e]
  show (if isKeep h = true then _ else _) = _
  by_cases q : isKeep h = true
  · rw [if_pos q, if_pos q]; rfl
  · rw [if_neg q, if_neg q]; rfl
theorem keepL_snoc (t : Tr) : ∀ (ts : List Tr) (i : Nat), keepL i (ts ++ [t]) = keepL i ts ++ (keepPaths t).map (fun p => (((i + ts.length : Nat)) : Int) :: p)
  | [], i => by
    show (keepPaths t).map _ ++ [] = [] ++ _
    simp
  | a :: ts, i => by
    show (keepPaths a).map _ ++ keepL (i + 1) (ts ++ [t]) = ((keepPaths a).map _ ++ keepL (i + 1) ts) ++ _
    rw [keepL_snoc t ts (i + 1), List.append_assoc, List.length_cons, show i + 1 + ts.length = i + (ts.length + 1) by omega]
theorem keepL_le : ∀ (ts : List Tr) (i : Nat), (keepL i ts).length ≤ Tr.sizes ts
  | [], i => Nat.le_refl _
  | t :: ts, i => by
    have := keepL_le ts (i + 1)
    have h1 : (keepPaths t).length ≤ t.size := by rw [← paths_len]; exact List.length_filter_le ..
    show ((keepPaths t).map _ ++ keepL (i + 1) ts).length ≤ t.size + Tr.sizes ts
    rw [List.length_append, List.length_map]
    omega
/-! ### once in the place of keep at the paths of S -/
def reword (b : Bool) : Hd → Hd
  | .one w x => if b = true ∧ w = "keep" then .one "once" x else .one w x
  | h => h
mutual
def Tr.rw (S : List (List Int)) (pre : List Int) : Tr → Tr
  | .mk h ps => .mk (reword (decide (pre ∈ S)) h) (Tr.rwL S pre 0 ps)
def Tr.rwL (S : List (List Int)) (pre : List Int) : Nat → List Tr → List Tr
  | _, [] => []
  | i, t :: ts => Tr.rw S (pre ++ [((i : Nat) : Int)]) t :: Tr.rwL S pre (i + 1) ts
end
theorem rwL_len (S : List (List Int)) (pre : List Int) : ∀ (ts : List Tr) (i : Nat), (Tr.rwL S pre i ts).length = ts.length
  | [], _ => rfl
  | t :: ts, i => by
    show (Tr.rwL S pre (i + 1) ts).length + 1 = ts.length + 1
    rw [rwL_len S pre ts (i + 1)]
theorem rwL_at (S : List (List Int)) (pre : List Int) : ∀ (ts : List Tr) (i j : Nat), (Tr.rwL S pre i ts)[j]? = (ts[j]?).map (Tr.rw S (pre ++ [((i + j : Nat) : Int)]))
  | [], _, _ => rfl
  | t :: ts, i, 0 => rfl
  | t :: ts, i, j + 1 => by
    show (Tr.rwL S pre (i + 1) ts)[j]? = (ts[j]?).map _
    rw [rwL_at S pre ts (i + 1) j, show i + 1 + j = i + (j + 1) by omega]
theorem rwL_eq {S R : List (List Int)} {pre : List Int} : ∀ (ts : List Tr) (i : Nat), (∀ j t, ts[j]? = some t → Tr.rw S (pre ++ [((i + j : Nat) : Int)]) t = Tr.rw R (pre ++ [((i + j : Nat) : Int)]) t) → Tr.rwL S pre i ts = Tr.rwL R pre i ts
  | [], _, _ => rfl
  | t :: ts, i, h => by
    show Tr.rw S _ t :: Tr.rwL S pre (i + 1) ts = Tr.rw R _ t :: Tr.rwL R pre (i + 1) ts
    have h0 := h 0 t rfl
    rw [Nat.add_zero] at h0
    have h1 := rwL_eq (S := S) (R := R) (pre := pre) ts (i + 1) fun j t e => by
      have := h (j + 1) t (by simpa using e)
      rw [show i + 1 + j = i + (j + 1) by omega]
      exact this
    rw [h0, h1]
/-- a path that does not begin so changes nothing -/
theorem rw_irrel {S : List (List Int)} {q : List Int} (t : Tr) : ∀ (pre : List Int), (∀ r, q ≠ pre ++ r) → Tr.rw (S ++ [q]) pre t = Tr.rw S pre t := by
  refine tr_ind (P := fun t => ∀ (pre : List Int), (∀ r, q ≠ pre ++ r) → Tr.rw (S ++ [q]) pre t = Tr.rw S pre t) (fun h ps ih pre hq => ?_) t
  show Tr.mk (reword (decide (pre ∈ S ++ [q])) h) (Tr.rwL (S ++ [q]) pre 0 ps) = Tr.mk (reword (decide (pre ∈ S)) h) (Tr.rwL S pre 0 ps)
  have e1 : decide (pre ∈ S ++ [q]) = decide (pre ∈ S) := by
    have n : pre ≠ q := fun e => hq [] (by rw [e, List.append_nil])
    simp [n]
  rw [e1, rwL_eq ps 0 fun j t e => ih t (List.mem_of_getElem? e) _ fun r z => hq ([((0 + j : Nat) : Int)] ++ r) (by rw [z, List.append_assoc])]
theorem put_rw {S : List (List Int)} : ∀ (p pre : List Int) (t : Tr) (x : Str) (b : Tr), Tr.at p t = some (.mk (.one "keep" x) [b]) →
    ∃ w b', Tr.at p (Tr.rw S pre t) = some (.mk (.one w x) [b']) ∧ Tr.put p (Tr.rw S pre t) (.mk (.one "once" x) [b']) = Tr.rw (S ++ [pre ++ p]) pre t
  | [], pre, t, x, b, e => by
    cases e
    have e2 : Tr.rw (S ++ [pre ++ []]) pre (.mk (.one "keep" x) [b]) = .mk (.one "once" x) [Tr.rw S (pre ++ [((0 : Nat) : Int)]) b] := by
      show Tr.mk (reword (decide (pre ∈ S ++ [pre ++ []])) (.one "keep" x)) [Tr.rw (S ++ [pre ++ []]) (pre ++ [((0 : Nat) : Int)]) b] = _
      rw [List.append_nil, rw_irrel b (pre ++ [((0 : Nat) : Int)]) fun r z => by
        have := congrArg List.length z
        simp at this]
      simp [reword]
    have e3 : ∃ w, reword (decide (pre ∈ S)) (.one "keep" x) = .one w x := by
      show ∃ w, (if decide (pre ∈ S) = true ∧ ("keep" : Str) = "keep" then Hd.one "once" x else Hd.one "keep" x) = .one w x
      split
      · exact ⟨_, rfl⟩
      · exact ⟨_, rfl⟩
    obtain ⟨w, e3⟩ := e3
    refine ⟨w, Tr.rw S (pre ++ [((0 : Nat) : Int)]) b, ?_, ?_⟩
    · show some (Tr.mk (reword (decide (pre ∈ S)) (.one "keep" x)) [Tr.rw S (pre ++ [((0 : Nat) : Int)]) b]) = _
      rw [e3]
    · rw [e2]
      rfl
  | i :: r, pre, .mk h ps, x, b, e => by
    have e' : (if 0 ≤ i then (ps[i.toNat]?).bind (Tr.at r) else none) = some (.mk (.one "keep" x) [b]) := e
    have h0 : 0 ≤ i := by
      by_cases q : 0 ≤ i
      · exact q
      · rw [if_neg q] at e'
        cases e'
    obtain ⟨m, rfl⟩ : ∃ m : Nat, i = (m : Int) := ⟨i.toNat, by omega⟩
    rw [if_pos h0, Int.toNat_natCast] at e'
    cases ec : ps[m]? with
    | none => rw [ec] at e'; cases e'
    | some c =>
      rw [ec] at e'
      obtain ⟨w, b', g1, g2⟩ := put_rw r (pre ++ [(m : Int)]) c x b e'
      have er : (Tr.rwL S pre 0 ps)[m]? = some (Tr.rw S (pre ++ [(m : Int)]) c) := by rw [rwL_at, ec, Nat.zero_add]; rfl
      refine ⟨w, b', ?_, ?_⟩
      · show (if 0 ≤ (m : Int) then ((Tr.rwL S pre 0 ps)[(m : Int).toNat]?).bind (Tr.at r) else none) = _
        rw [if_pos h0, Int.toNat_natCast, er]
        exact g1
      · show (match (Tr.rwL S pre 0 ps)[(m : Int).toNat]? with | some p => Tr.mk (reword (decide (pre ∈ S)) h) ((Tr.rwL S pre 0 ps).set (m : Int).toNat (Tr.put r p _)) | none => _) = _
        rw [Int.toNat_natCast, er]
        show Tr.mk (reword (decide (pre ∈ S)) h) ((Tr.rwL S pre 0 ps).set m (Tr.put r (Tr.rw S (pre ++ [(m : Int)]) c) (.mk (.one "once" x) [b']))) = Tr.mk (reword (decide (pre ∈ S ++ [pre ++ (m : Int) :: r])) h) (Tr.rwL (S ++ [pre ++ (m : Int) :: r]) pre 0 ps)
        rw [g2]
        have e1 : decide (pre ∈ S ++ [pre ++ (m : Int) :: r]) = decide (pre ∈ S) := by
          have n : pre ≠ pre ++ (m : Int) :: r := fun e => by
            have := congrArg List.length e
            simp at this
          simp [n]
        rw [e1]
        congr 1
        have hm : m < ps.length := (List.getElem?_eq_some_iff.mp ec).1
        refine List.ext_getElem? fun j => ?_
        rw [rwL_at]
        by_cases q : j = m
        · subst q
          rw [List.getElem?_set_self (by rw [rwL_len]; exact hm), ec, Nat.zero_add, List.append_assoc]
          rfl
        · rw [List.getElem?_set_ne (Ne.symm q), rwL_at]
          cases ej : ps[j]? with
          | none => rfl
          | some d =>
            show some _ = some _
            rw [rw_irrel d (pre ++ [((0 + j : Nat) : Int)]) fun r' z => q ?_]
            rw [List.append_assoc] at z
            have z2 := List.append_cancel_left z
            simp at z2
            omega
end Cm

/-! paths as data: equality, being in a list -/
namespace Cm
open PySem L2 PySem.Spec PyProof.Rows
theorem eqvAll_intsP : ∀ a b : List Int, PyData.eqvAll (a.map PyData.int) (b.map PyData.int) = decide (a = b)
  | [], [] => by simp [PyData.eqvAll]
  | [], b :: bs => by simp [PyData.eqvAll]
  | a :: as, [] => by simp [PyData.eqvAll]
  | a :: as, b :: bs => by
    have ih := eqvAll_intsP as bs
    simp only [List.map_cons, PyData.eqvAll, PyData.eqv, ih]
    by_cases h : a = b
    · by_cases h2 : as = bs <;> simp [h, h2]
    · simp [h]
theorem eqv_path (a b : List Int) : PyData.eqv (pathI a) (pathI b) = decide (a = b) := by
  have := eqvAll_intsP a b
  simp only [pathI, PyData.eqv]
  exact this
theorem any_path (S : List (List Int)) (p : List Int) : ((S.map pathI).any fun z => PyData.eqv z (pathI p)) = decide (p ∈ S) := by
  induction S with
  | nil => rfl
  | cons s S ih =>
    rw [List.map_cons, List.any_cons, ih, eqv_path]
    by_cases h : s = p
    · simp [h]
    · have : ¬ p = s := fun z => h z.symm
      simp [h, this]
theorem lay_path (p : List Int) : Lay 1 (pathI p) := Lay.tup (n := 0) fun d hd => by
  obtain ⟨i, _, rfl⟩ := List.mem_map.mp hd
  exact .int i 0
theorem lay_paths (S : List (List Int)) : Lay 2 (.list (S.map pathI)) := Lay.lst fun d hd => by
  obtain ⟨i, _, rfl⟩ := List.mem_map.mp hd
  exact lay_path i
theorem lay_pathsT (S : List (List Int)) : Lay 2 (.tuple (S.map pathI)) := Lay.tup fun d hd => by
  obtain ⟨i, _, rfl⟩ := List.mem_map.mp hd
  exact lay_path i
theorem ko_notInD {X : Cx} {K : PySem.W.Frag} (hu : X.A.units + 65 < cLine) (h : X.K = K := by rfl) : OpR X (compareOp .NotIn) (rNotInD K) := by subst h; exact op_notInD hu
theorem ko_inD {X : Cx} {K : PySem.W.Frag} (hu : X.A.units + 65 < cLine) (h : X.K = K := by rfl) : OpR X (compareOp .In) (rInD K) := by subst h; exact op_inD hu
def rListOf (K : PySem.W.Frag) : List V → Hp → VK → Prop := fun xs H Q => ∃ p ys, xs = [.ref p] ∧ (SqL K H p ys ∨ SqT K H p ys) ∧ ∀ l, H l = Option.none → Q (.ref l) (upd H l (.lst ys))
theorem kc_listOf {X : Cx} {K : PySem.W.Frag} (h : X.K = K := by rfl) : CallR X (.type "list") (rListOf K) := by subst h; exact call_list_of
theorem room65 {k : Nat} {A : Around} (r : Room k A) : A.units + 65 < cLine := by have := r.un; omega
end Cm

/-! an exception that is caught and kept as a value -/
namespace Cm
open PySem L2 PySem.Spec PyProof.Rows
/-- an exception object at a: its class, its dict -/
def ExH (a : Addr) (cls : Value) (d : Option Addr) : HO := .ext fun h => ∃ (o : Obj) (vs : Array Value), h.get? a = some o ∧ Zc cls d o ∧ o.data = .fields vs
theorem exH_ok {P : Program} {w : World} {H : Hp} {h : Heap} {a : Addr} {cls : Value} {d : Option Addr} {o : Obj} {vs : Array Value} (e : h.get? a = some o) (z : Zc cls d o) (f : o.data = .fields vs) : ObjOk P w H h a (ExH a cls d) :=
  ⟨⟨o, vs, e, z, f⟩, ⟨o, e⟩, fun h1 h2 ⟨o', vs', e', z', f'⟩ k => ⟨o', vs', k _ e', z', f'⟩⟩
theorem exH_at {P : Program} {w : World} {H : Hp} {h : Heap} {a : Addr} {cls : Value} {d : Option Addr} (hok : HOk P w H h) (e : H a = some (ExH a cls d)) : ∃ (o : Obj) (vs : Array Value), h.get? a = some o ∧ Zc cls d o ∧ o.data = .fields vs := by
  have x : ObjOk P w H h a (ExH a cls d) := hok a _ e
  exact x.1
section
variable {X : Cx} {pins : List (Addr × Obj)} {σ : L2.St} {H : Hp} {s : Shared}
theorem track {a : Addr} {o : HO} (I : Inv X pins σ H s) (na : H a = Option.none) (n0 : X.s_0.heap.get? a = Option.none) (nL : a ≠ X.env.locals) (nC : ∀ x c, X.env.cells.lookup x = some c → c ≠ a) (nP : ∀ p ∈ X.pn ++ pins, p.1 ≠ a)
    (new : ObjOk X.prog X.w (upd H a o) s.heap a o) : Inv X pins σ (upd H a o) s := by
  have other : ∀ {b : Addr} {u : HO}, H b = some u → (upd H a o) b = some u := fun {b u} e => by
    rw [upd_ne (ne_of_none e na)]
    exact e
  refine ⟨I.ok, I.os, I.bare, ⟨I.base.keep, I.base.slot, fun b u e n hx => ?_, I.base.there, fun b xs e => other (I.base.tups b xs e), fun b u xs e => other (I.base.frzs b u xs e), fun b ps e => ?_⟩, I.loc, I.cell, ?_, fun x c e => ?_, fun p hp => ?_, fun b u e => ?_, I.len⟩
  · have hb : b ≠ a := fun z => by
      rw [z, n0] at e
      cases e
    rw [upd_ne hb]
    exact I.base.free b u e n hx
  · obtain ⟨more, q⟩ := I.base.tbls b ps e
    exact ⟨more, other q⟩
  · rw [upd_ne nL.symm]
    exact I.free
  · rw [upd_ne (nC x c e)]
    exact I.freeC x c e
  · obtain ⟨e, n, ne, nf, dd⟩ := I.pin p hp
    exact ⟨e, by rw [upd_ne (nP p hp)]; exact n, ne, nf, dd⟩
  · by_cases hb : b = a
    · subst hb
      rw [upd_same] at e
      cases e
      exact new
    · rw [upd_ne hb] at e
      exact (I.hok b u e).stay (fun c v _ q => q) (fun c q => other q) fun c xs q => other q
theorem suite0 (I : Inv X pins σ H s) (a : Addr) : Inv (X.suite a (X.pn ++ pins)) [] σ H s :=
  ⟨I.ok.suite _ _, I.os, I.bare, I.base, I.loc, I.cell, I.free, I.freeC, fun p hp => I.pin p (by rw [List.append_nil] at hp; exact hp), I.hok, I.len⟩
theorem unsuite0 {a : Addr} {pn' : List (Addr × Obj)} (I : Inv (X.suite a (X.pn ++ pins)) pn' σ H s) (ok : X.Ok) : Inv X pins σ H s :=
  ⟨ok, I.os, I.bare, I.base, I.loc, I.cell, I.free, I.freeC, fun p hp => I.pin p (List.mem_append_left _ hp), I.hok, I.len⟩
end
/-- what the clause asks where the caught exception is kept -/
def wHeld (K : PySem.W.Frag) (c : Value) (i : Nat) (ts : Addr → TS) (D : Ends) : WX := fun cls d σ H =>
  PySem.W.exmOne K cls c = some true ∧ ∀ a, H a = Option.none → ts a { nx := fun σ' H' => D.nx (σ'.set i Option.none) H', rt := D.rt, bk := fun σ' H' => D.bk (σ'.set i Option.none) H', ct := fun σ' H' => D.ct (σ'.set i Option.none) H' } (σ.set i (some (.ref a))) (upd H a (ExH a cls d))
section
variable {X : Cx} {x n : Str} {c : Value} {i : Nat} {body suite : List Stmt} {b₀ : Stmt} {np pos pos' : Pos} {tb : WX → TS} {ts : Addr → TS}
theorem ps_try_held (hs : X.stack = X.env :: X.outer) (hf : X.env.frame = some X.env.locals) (hN : X.N.Nodup) (hi : X.N[i]? = some n) (hln : X.env.kindOf n = some .local) (hc : Names X x c) (hex : X.ex = [])
    (hb : ∀ (W : WX) (pn : List (Addr × Obj)) (xe : Value → Shared → Prop), Takes (X.tr pn xe) W → PassesOwn (model X.prog X.w) X.A X.env xe → PSs (X.tr pn xe) body (tb W))
    (hsu : ∀ (a : Addr) (pn : List (Addr × Obj)), PSs (X.suite a pn) (b₀ :: suite) (ts a)) :
    PS X (.Try body [.ExceptHandler (some (.Name x np)) (some n) (b₀ :: suite) pos'] [] [] pos) (fun D σ H => tb (wHeld X.K c i ts D) D σ H) := by
  refine ⟨fun pins s σ H D I h => ?_⟩
  have ok := I.ok
  have hfr : X.A.frames = some (X.env :: X.outer) := by rw [ok.frames, hs]
  refine wpAny_Try_except ?_
  refine wpAny_mono ((hb (wHeld X.K c i ts D) (X.pn ++ pins) (fun e s₁ => wpAny (model X.prog X.w) X.A (noteFrame e X.env) (fun _ s₂ => wpAny (model X.prog X.w) X.A (setFlight e Option.none) (fun _ s₃ =>
    wpAny (model X.prog X.w) X.A (handleBy e X.env [.ExceptHandler (some (.Name x np)) (some n) (b₀ :: suite) pos']) (SP X pins D) X.xe s₃) X.xe s₂) X.xe s₁) (fun u s' xx => ?_) PassesOwn.looking).run [] s σ H D (I.toTry _) h) (fun f s1 hsp => ?_) (fun e s1 he => he)
  · obtain ⟨a, B, sI, pins', σ', H', cls, d, rfl, J', nb, up, sky, na, os, ag, hb1, hyes⟩ := xx
    have J : Inv X pins σ' H' sI := J'.ofTry ok
    have sky' : Sky B (X.env :: X.outer) a (Zc cls d) X.env.locals s'.heap := by rw [← hs]; exact sky
    show wpAny _ _ (noteFrame (.ref a) X.env) _ _ _
    refine Sky.land Zc.steady hfr hf sky' fun h3 fl3 up3 => ?_
    have J3 : Inv X pins σ' H' { s' with heap := h3 } := J.landed nb fl3.1 (up.trans up3) os ag
    obtain ⟨oe3, vs3, he3, hz3, hd3⟩ := fl3.there
    have nfr : a ∉ frs X.stack := fun hm => by
      rw [hs] at hm
      obtain ⟨_, o', e', hnf⟩ := fl3.2.2.1.mem hm
      rw [he3] at e'
      cases e'
      exact hnf _ hd3
    have nsI : sI.heap.get? a = Option.none := by
      cases q : sI.heap.get? a with
      | none => rfl
      | some o =>
        have z := nb a o q nfr
        rw [fl3.2.1] at z
        cases z
    have n0 : X.s_0.heap.get? a = Option.none := by
      cases q : X.s_0.heap.get? a with
      | none => rfl
      | some o =>
        obtain ⟨o', z⟩ := J.base.there a o q (by rw [hex]; exact List.not_mem_nil)
        rw [nsI] at z
        cases z
    have nL : a ≠ X.env.locals := fun z => nfr (by
      rw [hs]
      exact List.mem_filterMap.mpr ⟨X.env, List.mem_cons_self, by rw [hf, z]⟩)
    have nC : ∀ y c, X.env.cells.lookup y = some c → c ≠ a := fun y c e z => by
      obtain ⟨v, o, ho, _⟩ := J.cell y c e
      rw [z, nsI] at ho
      cases ho
    have nP : ∀ p ∈ X.pn ++ pins, p.1 ≠ a := fun p hp z => by
      have q := (J.pin p hp).1
      rw [z, nsI] at q
      cases q
    have S3 := suite0 J3 a
    refine wpAny_handleBy_cons (codeAny_handlers_test ?_) (by intro q; cases q)
    have LT : PySem.W.Looks (model X.prog X.w) h3 (typeOf (.ref a)) cls := fun A Q E s k q => wpAny_typeOf_ref (k _ _ he3) (by rw [hz3.1]; exact q)
    have LM := PySem.W.exm_one (M := model X.prog X.w) (J3.kIn) LT hb1
    have test : ∀ {Q : Value → Shared → Prop} {E : Value → Shared → Prop}, Q c { s' with heap := h3 } → wpAny (model X.prog X.w) (X.A.mark (some (.ref a))) (eval (.Name x np) X.env) Q E { s' with heap := h3 } := fun {Q E} q => by
      obtain ⟨hg, hdbg, hm | ⟨hm, hv, hnn⟩⟩ := hc
      · exact ld_glob (X := X.suite a (X.pn ++ pins)) S3 hg hm q hdbg
      · exact ld_blt (X := X.suite a (X.pn ++ pins)) S3 hg hm hv q hnn hdbg
    refine test (LM.here ?_)
    refine codeAny_handlers_suite_as ?_
    refine HandSPX.lands_againZ fl3 fun h4 fl4 up4 => ?_
    have J4 : Inv X pins σ' H' { s' with heap := h4 } := J.landed nb fl4.1 ((up.trans up3).trans up4) os ag
    obtain ⟨oe4, vs4, he4, hz4, hd4⟩ := fl4.there
    have T4 := track (o := ExH a cls d) J4 na n0 nL nC nP (exH_ok he4 hz4 hd4)
    have S4 := suite0 T4 a
    refine store_ok (X := X.suite a (X.pn ++ pins)) (v := .ref a) S4 hN hi (.inl hln) rfl (fun s5 S5 => ?_) (.inr hln)
    refine wpAny_mono ((hsu a (X.pn ++ pins)).run [] s5 _ _ _ S5 (hyes a na)) (fun f s6 hsp => ?_) (fun _ _ z => False.elim z)
    have end_ : ∀ {σ6 : L2.St} {H6 : Hp} {Q : Shared → Prop}, Inv (X.suite a (X.pn ++ pins)) [] σ6 H6 s6 → (∀ s7, Inv X pins (σ6.set i Option.none) H6 s7 → Q s7) →
        wpAny (model X.prog X.w) X.A (do bindName X.env n .none; unbindBehindTheSuite X.env n pos') (fun _ s7 => Q s7) X.xe s6 := fun {σ6 H6 Q} S6 hq => gone_ok (unsuite0 S6 ok) hN hi hln hq
    cases f with
    | next =>
      obtain ⟨σ6, H6, S6, q6⟩ := hsp
      exact end_ S6 fun s7 J7 => ⟨_, _, J7, q6⟩
    | brk =>
      obtain ⟨σ6, H6, S6, q6⟩ := hsp
      exact end_ S6 fun s7 J7 => ⟨_, _, J7, q6⟩
    | cont =>
      obtain ⟨σ6, H6, S6, q6⟩ := hsp
      exact end_ S6 fun s7 J7 => ⟨_, _, J7, q6⟩
    | ret u =>
      obtain ⟨v6, σ6, H6, S6, r6, q6⟩ := hsp
      exact end_ S6 fun s7 J7 => ⟨_, _, _, J7, r6, q6⟩
  · cases f with
    | next =>
      obtain ⟨σ', H', J', q⟩ := hsp
      exact wpAny_execs_nil ⟨σ', H', J'.ofTry ok, q⟩
    | brk =>
      obtain ⟨σ', H', J', q⟩ := hsp
      exact ⟨σ', H', J'.ofTry ok, q⟩
    | cont =>
      obtain ⟨σ', H', J', q⟩ := hsp
      exact ⟨σ', H', J'.ofTry ok, q⟩
    | ret u =>
      obtain ⟨v, σ', H', J', r, q⟩ := hsp
      exact ⟨v, σ', H', J'.ofTry ok, r, q⟩
end
/-! ### isinstance(x, C), x a kept exception of just that class -/
theorem ans_same {x t : Value} {P : Heap → Prop} (ty : ∀ (M : Model) (h : Heap), P h → PySem.W.Looks M h (typeOf x) t) : Answers (fun s => P s.heap) x t true := by
  intro dep tk prog w A R s hs
  obtain ⟨h0, g, d, tt, os⟩ := s
  obtain ⟨p, hq⟩ := hs
  have LT := ty (model prog w) h0 p
  unfold Builtin.«isinstance.nested»
  refine wpAny_bind (LT.at ?_)
  have q : (t == t) = true := beq_self_eq_true t
  rw [if_pos q]
  first
    | exact wpAny_bind (wpAny_rule (hq tt))
    | exact wpAny_bind (wpAny_rule (wpAny_pure (hq tt)))
    | exact wpAny_pure (hq tt)
def rIsX : List V → Hp → VK → Prop := fun xs H Q => ∃ (a C : Addr) (d : Option Addr), xs = [.ref a, .ref C] ∧ H a = some (ExH a (.ref C) d) ∧ Q (.bl true) H
theorem call_isX {X : Cx} : CallR X (.builtin "isinstance") rIsX := by
  intro pins s σ H xs us Q I r h
  obtain ⟨a, C, d, rfl, e, q⟩ := h
  obtain ⟨u1, u2, rfl, r1, r2⟩ := vals2 r
  obtain rfl : u1 = Value.ref a := r1
  obtain rfl : u2 = Value.ref C := r2
  obtain ⟨o, vs, ho, z, f⟩ := exH_at I.hok e
  refine call_isinstance (S := fun _ R s => (∃ o, s.heap.get? a = some o ∧ o.cls = .ref C) ∧ ∀ tk, R (.ok (.ret (.bool true))) { s with toks := tk })
    (fun prog w A R s hs => isinstance_outer (ans_same (P := fun h => ∃ o, h.get? a = some o ∧ o.cls = .ref C) (fun M h ⟨o, e, c⟩ => fun A Q E s k q => wpAny_typeOf_ref (k _ _ e) (by rw [c]; exact q)) 0 _ prog w A R s hs) (fun z => nomatch z)) ⟨⟨o, ho, z.1⟩, fun tk => ⟨.bl true, H, I.tok tk, rfl, q⟩⟩
/-! ### x.f, x a kept exception -/
def tFldX (K : PySem.W.Frag) (f : Str) (te : TE) : TE := fun σ H Q => te σ H fun x H1 => ∃ (a C dd : Addr) (fs : List (Str × V)) (v : V), x = .ref a ∧ XfC K C ∧ PySem.W.findIn K (.ref C) f = some Option.none ∧ H1 a = some (ExH a (.ref C) (some dd)) ∧ H1 dd = some (.xd fs) ∧ fs.lookup f = some v ∧ Q v H1
theorem pe_fldX {X : Cx} {e : Expr} {te : TE} {pos : Pos} {n : Str} (he : PE X e te) (hb : attributeBase e n X.env (eval e X.env) = eval e X.env := by rfl) : PE X (.Attribute e n pos) (tFldX X.K n te) := by
  refine ⟨fun pins s σ H Q I h => ?_⟩
  refine attr_of hb (thn (he.run pins s σ H _ I h) fun u s1 hh => ?_)
  obtain ⟨x, H1, I1, rx, a, C, dd, fs, v, ex, T, hno, eh, ea, l, q⟩ := hh
  subst ex
  obtain rfl : u = Value.ref a := rx
  obtain ⟨oe, vs, ha, hz, hd⟩ := exH_at I1.hok eh
  have hx : ObjOk X.prog X.w H1 s1.heap dd (.xd fs) := I1.hok dd _ ea
  obtain ⟨mA, hns, hr⟩ := hx
  obtain ⟨od, ho, hl⟩ := lookIn_ns hns
  obtain ⟨u, hu, ru⟩ := RelO.some_of (v := v) (o := mA n) (by rw [← l]; exact hr n)
  have J : PySem.W.InstAt s1.heap a oe C (some od) := ⟨ha, hz.1, by unfold PySem.W.notCls; rw [hd] <;> rfl, by rw [hz.2]; exact ho⟩
  exact HandSPX.exc_get I1.kIn J T.ga T.gg T.exC (PySem.W.findObj_own T.hdC hno rfl (by rw [hl, hu])) (handed_of ru) ⟨v, H1, I1.tok _, ru, q⟩
end Cm

set_option linter.all false
/-! own exceptions that are made as values, their fields, isinstance of them -/
namespace Cm
open PySem L2 PySem.Spec PyProof.Rows
/-- a made exception with fields fs -/
def ExV (H : Hp) (a C : Addr) (fs : List (Str × V)) : Prop := ∃ d, H a = some (exo a C (some d)) ∧ H d = some (exd d fs)
theorem ExV.same {H H' : Hp} {a C : Addr} {fs : List (Str × V)} (x : ExV H a C fs) (s : Same H H') : ExV H' a C fs := by
  obtain ⟨d, e1, e2⟩ := x
  exact ⟨d, s _ _ e1, s _ _ e2⟩
/-- C(e, ..) as a value, C's own __init__ keeping sp -/
def tMkV (C : Addr) (sp : Sp) (ta : TA) : TE := fun σ H Q => ta σ H fun vs H1 => vs.length ≤ 1000 ∧ ∀ a, H1 a = Option.none → sp (.ref a :: vs) (upd H1 a (exo a C Option.none)) (fun v H2 => v = .non ∧ Q (.ref a) H2) E0
theorem pe_mkV {X : Cx} {x : Str} {C fI : Addr} {k : Nat} {fd : FuncData} {ps : List Str} {sp : Sp} {e : Expr} {es : List Expr} {ta : TA} {p pos : Pos} (T : OexC X.K C) (iC : PySem.W.findIn X.K (.ref C) "__init__" = some (some (.ref fI))) (tI : PySem.W.typeIn X.K (.ref fI) = some (.type "function"))
    (F1 : FnOk X.prog X.w X.K X.mg X.base CX0 k fI fd ps sp) (hr : Room (k + 1) X.A) (hb : Binds X.K fd ps []) (hg : Gl X x) (hm : X.mg x = some (.ref C)) (ha : PA X (e :: es) ta)
    (hdb : (x == ("__debug__" : Str)) = false := by decide) (he : starEach (e :: es) X.env = (false, eval e X.env) :: starEach es X.env := by rfl) (hpl : (backTo pos (starEach es X.env)).any (·.1) = false := by rfl) :
    PE X (.Call (.Name x p) (e :: es) [] pos) (tMkV C sp ta) := by
  refine ⟨fun pins s σ H Q I h => ?_⟩
  obtain ⟨nm, q, N, bs, bm, sn, sub, ab, col, dd, k0, k1, k2, k3, k5, hC, hbm⟩ := T.cls
  refine wpAny_Call_Name_kw (ld_glob I hg hm ?_ hdb)
  refine PySem.W.callWith_K (h₀ := X.base) I.ok.mod.kin T.kC (thn (ha.run pos pins s σ H _ I h) fun us s1 ⟨vs, H1, I1, r1, hz, q1⟩ => ⟨I1.kIn, ?_⟩) he hpl
  show wpAny _ _ (call (.ref C) us) _ _ _
  obtain ⟨hp, g, dr, tk, os⟩ := s1
  have hsz : hp.objs.size ≤ hp.objs.size + 1 := Nat.le_succ _
  have hq := q1 (hp.objs.size + 1) (I1.hok.fresh hsz)
  have hget : ((hp.push (PySem.W.kdv_tup us)).push (PySem.HandSPX.excO C hp.objs.size)).get? (hp.objs.size + 1) = some (PySem.HandSPX.excO C hp.objs.size) := by heap_get
  have I2 : Inv X pins σ (upd H1 (hp.objs.size + 1) (exo (hp.objs.size + 1) C Option.none)) ⟨(hp.push (PySem.W.kdv_tup us)).push (PySem.HandSPX.excO C hp.objs.size), g, dr, tk, os⟩ :=
    I1.laid (t' := tk) (a := hp.objs.size + 1) (o := exo (hp.objs.size + 1) C Option.none) (fun b o e => Heap.get?_push_of_some _ (Heap.get?_push_of_some _ e)) hsz (exo_ok hget)
  have r2 : Vals (V.ref (hp.objs.size + 1) :: vs) (Value.ref (hp.objs.size + 1) :: us) := .cons rfl r1
  have hl : (Value.ref (hp.objs.size + 1) :: us).length = ps.length := by
    have e := r2.length
    rw [F1.len _ _ _ _ hq] at e
    exact e.symm
  have hus : us.length ≤ sizeLine := by
    rw [← Paired.length r1, sizeLine_eq]
    omega
  have hbb := hb ⟨(hp.push (PySem.W.kdv_tup us)).push (PySem.HandSPX.excO C hp.objs.size), g, dr, tk, os⟩ (Value.ref (hp.objs.size + 1) :: us) I2.kIn (by rw [List.append_nil]; exact hl)
  rw [List.append_nil] at hbb
  refine wpAny_call (PySem.HandSPX.call_own F.excBase_ValueError (fun Y => PySem.HandSPX.refsVE_contains Y bm hbm) (I1.kIn _ _ hC) (PySem.W.looks_findIn I1.kIn iC) (fun self => PySem.W.bind_fn I1.kIn self tI) hus
    (codeAny_mono (F1.run _ X.stack _ _ ⟨Value.ref (hp.objs.size + 1) :: us, []⟩ (Value.ref (hp.objs.size + 1) :: us) _ _ E0 (hr.make C us []) (I2.env0.make C us []) hbb r2 hq) fun r s' hq' => ?_))
  cases r with
  | error er => exact pass0 pins σ _ _ er s' I2 hq'
  | ok fl =>
    cases fl with
    | ret u =>
      obtain ⟨v, H2, J, rv, ev, q2⟩ := I2.after hq'
      subst ev
      exact ⟨rv, .ref (hp.objs.size + 1), H2, J, rfl, q2⟩
    | next => exact False.elim hq'
    | brk => exact False.elim hq'
    | cont => exact False.elim hq'
/-! ### x.f -/
def tFldE (K : PySem.W.Frag) (f : Str) (te : TE) : TE := fun σ H Q => te σ H fun x H1 => ∃ (a C : Addr) (fs : List (Str × V)) (v : V), x = .ref a ∧ XfC K C ∧ PySem.W.findIn K (.ref C) f = some Option.none ∧ ExV H1 a C fs ∧ fs.lookup f = some v ∧ Q v H1
theorem pe_fldE {X : Cx} {e : Expr} {te : TE} {pos : Pos} {n : Str} (he : PE X e te) (hb : attributeBase e n X.env (eval e X.env) = eval e X.env := by rfl) : PE X (.Attribute e n pos) (tFldE X.K n te) := by
  refine ⟨fun pins s σ H Q I h => ?_⟩
  refine attr_of hb (thn (he.run pins s σ H _ I h) fun u s1 hh => ?_)
  obtain ⟨x, H1, I1, rx, a, C, fs, v, ex, T, hno, ⟨dd, eh, ea⟩, l, q⟩ := hh
  subst ex
  obtain rfl : u = Value.ref a := rx
  obtain ⟨t1, ho⟩ := exo_at I1.hok eh
  obtain ⟨mA, hns, hr⟩ := exd_at I1.hok ea
  obtain ⟨od, hod, hl⟩ := lookIn_ns hns
  obtain ⟨u, hu, ru⟩ := RelO.some_of (v := v) (o := mA n) (by rw [← l]; exact hr n)
  have J : PySem.W.InstAt s1.heap a { cls := .ref C, dict := some dd, data := .fields #[.ref t1, .none, .none, .none, .bool false, .none] } C (some od) := ⟨ho, rfl, rfl, hod⟩
  exact HandSPX.exc_get I1.kIn J T.ga T.gg T.exC (PySem.W.findObj_own T.hdC hno rfl (by rw [hl, hu])) (handed_of ru) ⟨v, H1, I1.tok _, ru, q⟩
end Cm
/-! ### isinstance(x, D), whichever class (after the library's rule for an exception without a dict) -/
namespace PySem.W
open PySem PySem.Spec PySem.Calls PyProof.Rows
theorem cls_ofExc {prog : Program} {w : World} {A : Around} {E : Value → Shared → Prop} {s : Shared} {K : Frag} {x D : Addr} {ox od : Obj} {Q : Option Value → Shared → Prop} (T : L2.ExcC K D) (X : K.In s.heap) (I : InstAt s.heap x ox D (some od))
    (h : Q (some (.ref D)) { s with toks := s.toks + 1 }) : wpAny (model prog w) A (getAttr? (.ref x) "__class__") Q E s := by
  have hf : findObj K D (some od) "__class__" = some (.bind (.builtin "getset_descriptor.__get__") (.builtin "object.__class__")) := findObj_data (by obtain ⟨cd, hc, _⟩ := any_some T.hd; rw [hc]; rfl) T.ha T.hn T.ht
  obtain ⟨hp, g, d, t, os⟩ := s
  have L0 := I.type (M := model prog w)
  have L1 := looks_findIn (M := model prog w) X T.hg
  have L2 := looks_findIn (M := model prog w) X T.hk
  have L3 := looks_find (M := model prog w) X I hf
  have sub : Looks (model prog w) hp (isInstance (.ref x) (.type "BaseException")) true := L0.andThen (looks_subIn X T.hs)
  have ne : (Value.builtin "BaseException.__getattribute__" == Value.builtin "object.__getattribute__") = false := by decide +kernel
  unfold getAttr? getAttrBy? getAttrBy
  refine wpAny_bind (wpAny_mkText (wpAny_bind (wpAny_attempt (wpAny_holding (wpAny_bind (L0.at (wpAny_bind (L1.at ?_))))))))
  show wpAny _ _ (if (onTheHeap (Value.ref D) && Value.builtin "BaseException.__getattribute__" == Value.builtin "object.__getattribute__") = true then _ else _) _ _ _
  rw [show (onTheHeap (Value.ref D) && Value.builtin "BaseException.__getattribute__" == Value.builtin "object.__getattribute__") = false by rw [ne]; rfl, if_neg Bool.false_ne_true]
  unfold getAttrByItsOwn hookBefore
  refine wpAny_bind ?_
  rw [if_pos (show onTheHeap (Value.ref D) = true from rfl)]
  refine L2.at (wpAny_bind (wpAny_attempt (wpAny_holding ?_)))
  unfold callGetattribute
  rw [show (false && onTheHeap (Value.builtin "BaseException.__getattribute__")) = false from rfl, if_neg Bool.false_ne_true]
  unfold boundAndCalled
  rw [PySem.F.excAttr_ValueError.ga.bind (.ref x)]
  refine wpAny_bind (wpAny_pure ?_)
  show wpAny _ _ (call (.builtin "BaseException.__getattribute__") [.ref x, .str "__class__" t]) _ _ _
  refine wpAny_call (codeAny_call_builtin PySem.F.excAttr_ValueError.ga.plain PySem.F.entry_bexc_ga ?_)
  refine @check_slot (model prog w) _ _ ⟨hp, g, d, t + 1, os⟩ "BaseException.__getattribute__" "BaseException" "__getattribute__" (.ref x) [.str "__class__" t] [] _ (by decide +kernel) (by decide +kernel) sub (PySem.F.args_bexc_ga (.ref x) (.str "__class__" t)) ?_
  unfold Builtin.«object.__getattribute__»
  refine wpAny_bind (wpAny_of_eq (a := ((Value.ref x : Value), [Value.str "__class__" t])) (by first | rfl | (simp only [slotArgs]; rfl)) ?_)
  refine wpAny_bind (wpAny_pure (wpAny_bind (L0.at (wpAny_bind (L3.at ?_)))))
  show wpAny _ _ (holding [Value.builtin "object.__class__"] (call (.builtin "getset_descriptor.__get__") [.builtin "object.__class__", .ref x, .ref D]) >>= ret) _ _ _
  refine wpAny_bind (wpAny_holding (wpAny_call (class_get (s := ⟨hp, g, d, t + 1, os⟩) (ox := ox) (od := some od) X I T.hm ?_)))
  refine wpAny_pure ?_
  show wpAny _ _ (handedOut (.ref D)) _ _ _
  rw [handedOut_of (v := .ref D) rfl]
  first
    | exact wpAny_pure (wpAny_pure h)
    | exact wpAny_pure h
    | exact wpAny_pure (wpAny_bind (wpAny_pure (wpAny_pure h)))
theorem kit_ofExc {K : Frag} {x D : Addr} {ox od : Obj} (T : L2.ExcC K D) : KitX K (.ref x) (.ref D) (fun h => InstAt h x ox D (some od)) where
  ty := fun _ _ _ I => I.type
  it := fun _ _ X _ => by
    obtain ⟨cdD, hcD, _⟩ := any_some T.hd
    unfold clsIn at hcD
    split at hcD
    · rename_i c' d' cd' sl' ho
      intro A' Q' E' s' k q
      unfold isType loadHead
      exact wpAny_bind (wpAny_loadPart (k _ _ (X _ _ ho)) (wpAny_pure q))
    · cases hcD
  ne := fun h tp dd its n sl X htp => by
    obtain ⟨cdD, hcD, _⟩ := any_some T.hd
    refine Bool.eq_false_iff.mpr fun q => ?_
    have e : D = tp := Value.ref.inj (beq_iff_eq.mp q)
    subst e
    unfold clsIn at hcD
    split at hcD
    · rename_i c' d' cd' sl' ho
      have z := (X _ _ ho).symm.trans htp
      cases z
    · cases hcD
  ca := fun X I k => cls_ofExc T X I k
end PySem.W
namespace Cm
open PySem L2 PySem.Spec PyProof.Rows
def rIsV (K : PySem.W.Frag) : List V → Hp → VK → Prop := fun xs H Q => ∃ (a C : Addr) (fs : List (Str × V)) (c : V) (cv : Value) (b : Bool), xs = [.ref a, c] ∧ ClsV c cv ∧ ExcC K C ∧ ExV H a C fs ∧ PySem.W.kitOne K (.ref C) cv = some b ∧ Q (.bl b) H
theorem call_isV {X : Cx} : CallR X (.builtin "isinstance") (rIsV X.K) := by
  intro pins s σ H xs us Q I r h
  obtain ⟨a, C, fs, c, cv, b, rfl, kc, T, ⟨dd, eh, ea⟩, e, q⟩ := h
  obtain ⟨u1, u2, rfl, r1, r2⟩ := vals2 r
  obtain rfl : u1 = Value.ref a := r1
  have e2 := kc.eq r2
  subst e2
  obtain ⟨t1, ho⟩ := exo_at I.hok eh
  obtain ⟨mA, hns, hr⟩ := exd_at I.hok ea
  obtain ⟨od, hod, hl⟩ := lookIn_ns hns
  have J : PySem.W.InstAt s.heap a { cls := .ref C, dict := some dd, data := .fields #[.ref t1, .none, .none, .none, .bool false, .none] } C (some od) := ⟨ho, rfl, rfl, hod⟩
  exact PySem.W.kia_one (PySem.W.kit_ofExc T) I.kIn J e (fun z => nomatch z) fun tk => ⟨.bl b, H, I.tok tk, rfl, q⟩
end Cm

set_option linter.all false
/-! classes of errors with fields: what is needed of each -/
namespace Cm
open PySem L2 PySem.Spec PyProof.Rows
/-- what an __init__ that stores its parameters leaves -/
def spI (K : PySem.W.Frag) (fl : List Str) : Sp := fun vs H Q _ => ∃ (a C : Addr) (xs : List V), vs = .ref a :: xs ∧ xs.length = fl.length ∧ OexC K C ∧ (∀ f ∈ fl, PySem.W.findIn K (.ref C) f = some Option.none) ∧ H a = some (exo a C Option.none) ∧
  ∀ (d : Addr) (H' : Hp), H d = Option.none → d ≠ a → (∀ b o, b ≠ a → H b = some o → H' b = some o) → H' a = some (exo a C (some d)) → H' d = some (exd d (fl.zip xs).reverse) → Q .non H'
structure Mk (P : Program) (w : World) (K : PySem.W.Frag) (mg : Str → Option Value) (base : Heap) (C : Addr) (x : Str) (fl : List Str) : Prop where
  oex : OexC K C
  g : mg x = some (.ref C)
  xf : XfC K C
  ec : ExcC K C
  no : ∀ f ∈ fl, PySem.W.findIn K (.ref C) f = some Option.none
  init : ∃ (fI : Addr) (fd : FuncData) (ps : List Str), PySem.W.findIn K (.ref C) "__init__" = some (some (.ref fI)) ∧ PySem.W.typeIn K (.ref fI) = some (.type "function") ∧ FnOk P w K mg base CX0 1 fI fd ps (spI K fl) ∧ Binds K fd ps []
def tMk (C : Addr) (fl : List Str) (ta : TA) : TE := fun σ H Q => ta σ H fun vs H1 => vs.length = fl.length ∧ ∀ a H', Same H1 H' → ExV H' a C (fl.zip vs).reverse → Q (.ref a) H'
theorem pe_mk {X : Cx} {x : Str} {C : Addr} {fl : List Str} {j : Nat} {e : Expr} {es : List Expr} {ta : TA} {p pos : Pos} (M : Mk X.prog X.w X.K X.mg X.base C x fl) (hr : Room j X.A) (hk : 2 ≤ j) (hl : fl.length ≤ 1000) (hg : Gl X x) (ha : PA X (e :: es) ta)
    (hdb : (x == ("__debug__" : Str)) = false := by decide) (he : starEach (e :: es) X.env = (false, eval e X.env) :: starEach es X.env := by rfl) (hpl : (backTo pos (starEach es X.env)).any (·.1) = false := by rfl) :
    PE X (.Call (.Name x p) (e :: es) [] pos) (tMk C fl ta) := by
  obtain ⟨fI, fd, ps, h1, h2, F, b⟩ := M.init
  have ha' : PA X (e :: es) (fun σ H Q => ∃ Q0, ta σ H Q0 ∧ ∀ vs H1, Q0 vs H1 → Q vs H1) := ⟨fun pos pins s σ H Q I ⟨Q0, h0, imp⟩ =>
    wpAny_mono (ha.run pos pins s σ H Q0 I h0) (fun us s1 ⟨vs, H1, I1, r, q⟩ => ⟨vs, H1, I1, r, imp _ _ q⟩) (fun _ _ z => z)⟩
  have R := pe_mkV (p := p) (pos := pos) M.oex h1 h2 F (hr.mono hk) b hg M.g ha' hdb he hpl
  refine ⟨fun pins s σ H Q I h => R.run pins s σ H Q I ⟨_, h, fun vs H1 ⟨hv, hq⟩ => ⟨by omega, fun a ha0 => ?_⟩⟩⟩
  refine ⟨a, C, vs, rfl, hv, M.oex, M.no, upd_same, fun d H' _ _ keep ea ed => ⟨rfl, hq a H' (fun b o q => ?_) ⟨d, ea, ed⟩⟩⟩
  have hb : b ≠ a := fun z => by
    rw [z, ha0] at q
    cases q
  exact keep b o hb (by rw [upd_ne hb]; exact q)
/-- self.f = x, then perhaps self.g = y -/
theorem init1 {K : PySem.W.Frag} {H : Hp} {a C : Addr} {f : Str} {x : V} {Q : Hp → Prop} (T : OexC K C) (no : PySem.W.findIn K (.ref C) f = some Option.none) (ha : H a = some (exo a C Option.none))
    (k : ∀ (d : Addr) (H' : Hp), H d = Option.none → d ≠ a → (∀ b o, b ≠ a → H b = some o → H' b = some o) → H' a = some (exo a C (some d)) → H' d = some (exd d [(f, x)]) → Q H') :
    ∃ a' C', V.ref a = .ref a' ∧ OexC K C' ∧ PySem.W.findIn K (.ref C') f = some Option.none ∧ ((H a' = some (exo a' C' Option.none) ∧ ∀ dx, H dx = Option.none → dx ≠ a' → Q (upd (upd H dx (exd dx [(f, x)])) a' (exo a' C' (some dx)))) ∨
      ∃ (dx : Addr) (fs : List (Str × V)), H a' = some (exo a' C' (some dx)) ∧ H dx = some (exd dx fs) ∧ fs.length ≤ 900 ∧ Q (upd H dx (exd dx ((f, x) :: fs)))) :=
  ⟨a, C, rfl, T, no, .inl ⟨ha, fun dx hd ne => k dx _ hd ne (fun b o hb e => by rw [upd_ne hb, upd_ne (ne_of_none e hd)]; exact e) upd_same (by rw [upd_ne ne]; exact upd_same)⟩⟩
theorem init2 {K : PySem.W.Frag} {H : Hp} {a C d : Addr} {g : Str} {y : V} {fs : List (Str × V)} {Q : Hp → Prop} (T : OexC K C) (no : PySem.W.findIn K (.ref C) g = some Option.none) (ha : H a = some (exo a C (some d))) (hd : H d = some (exd d fs)) (hl : fs.length ≤ 900) (ne : d ≠ a)
    (k : (∀ b o, b ≠ d → H b = some o → (upd H d (exd d ((g, y) :: fs))) b = some o) → Q (upd H d (exd d ((g, y) :: fs)))) :
    ∃ a' C', V.ref a = .ref a' ∧ OexC K C' ∧ PySem.W.findIn K (.ref C') g = some Option.none ∧ ((H a' = some (exo a' C' Option.none) ∧ ∀ dx, H dx = Option.none → dx ≠ a' → Q (upd (upd H dx (exd dx [(g, y)])) a' (exo a' C' (some dx)))) ∨
      ∃ (dx : Addr) (fs : List (Str × V)), H a' = some (exo a' C' (some dx)) ∧ H dx = some (exd dx fs) ∧ fs.length ≤ 900 ∧ Q (upd H dx (exd dx ((g, y) :: fs)))) :=
  ⟨a, C, rfl, T, no, .inr ⟨d, fs, ha, hd, hl, k fun b o hb e => by rw [upd_ne hb]; exact e⟩⟩
end Cm

set_option linter.all false
/-! an error without arguments; isinstance of errors of any kind -/
namespace Cm
open PySem L2 PySem.Spec PyProof.Rows
theorem pe_exc0 {X : Cx} {C : Addr} {bmB : List Value} {B newId initId : String} {x : Str} {p pos : Pos} (F : ExcBaseFacts B newId initId bmB) (q : PySem.W.excIn X.K C bmB newId = true) (gC : X.mg x = some (.ref C)) (kC : PySem.W.keepIn X.K (.ref C) = true) (hg : Gl X x)
    (hdb : (x == ("__debug__" : Str)) = false := by decide) :
    PE X (.Call (.Name x p) [] [] pos) (fun _ H Q => ∀ a, H a = Option.none → Q (.ref a) (upd H a (ExO (.ref C) a))) := by
  refine ⟨fun pins s σ H Q I h => ?_⟩
  refine wpAny_Call_Name_kw (ld_glob I hg gC ?_ hdb)
  refine PySem.W.callWith_K0 I.kIn kC ?_
  show wpAny _ _ (call (.ref C) []) _ _ _
  obtain ⟨bm, N, nm, qn, bs, hdct, sn, sub, ab, col, dd, k0, k1, k2, k3, k5, mN, hC, hN, hni, T⟩ := exc_obj I.kIn q
  refine wpAny_call_exc_subT F T hC hN hni (fun h' a hm => ?_) (by show 0 ≤ sizeLine; rw [sizeLine_eq]; omega)
  have hn : H a = Option.none := I.hok.gone hm.new
  obtain ⟨t, ht, _, _⟩ := hm.there
  exact ⟨.ref a, upd H a (ExO (.ref C) a), I.laidN hm.keeps hm.new hn (exO_ok ht ⟨rfl, rfl⟩ rfl rfl rfl (show 4 < 6 by decide)), rfl, h a hn⟩
/-- an error: with a dict, without, or kept behind a try -/
def ExA (H : Hp) (a C : Addr) : Prop := (∃ fs, ExV H a C fs) ∨ H a = some (ExO (.ref C) a) ∨ ∃ dd fs, H a = some (ExH a (.ref C) (some dd)) ∧ H dd = some (.xd fs)
theorem ExA.same {H H' : Hp} {a C : Addr} (x : ExA H a C) (s : Same H H') : ExA H' a C := by
  rcases x with ⟨fs, x⟩ | x | ⟨dd, fs, x, y⟩
  · exact .inl ⟨fs, x.same s⟩
  · exact .inr (.inl (s _ _ x))
  · exact .inr (.inr ⟨dd, fs, s _ _ x, s _ _ y⟩)
def rIsA (K : PySem.W.Frag) : List V → Hp → VK → Prop := fun xs H Q => ∃ (a C : Addr) (c : V) (cv : Value) (b : Bool), xs = [.ref a, c] ∧ ClsV c cv ∧ ExcC K C ∧ ExA H a C ∧ PySem.W.kitOne K (.ref C) cv = some b ∧ Q (.bl b) H
theorem call_isA {X : Cx} : CallR X (.builtin "isinstance") (rIsA X.K) := by
  intro pins s σ H xs us Q I r h
  obtain ⟨a, C, c, cv, b, rfl, kc, T, x, e, q⟩ := h
  rcases x with ⟨fs, x⟩ | x | ⟨dd, fs, eh, ea⟩
  · exact call_isV pins s σ H _ us Q I r ⟨a, C, fs, c, cv, b, rfl, kc, T, x, e, q⟩
  · obtain ⟨u1, u2, rfl, r1, r2⟩ := vals2 r
    obtain rfl : u1 = Value.ref a := r1
    have e2 := kc.eq r2
    subst e2
    have hx : ObjOk X.prog X.w H s.heap a (ExO (.ref C) a) := I.hok a _ x
    obtain ⟨oe, vs, ho, hz, hd, _⟩ := hx.1
    have J : PySem.W.InstAt s.heap a oe C Option.none := ⟨ho, hz.1, by unfold PySem.W.notCls; rw [hd] <;> rfl, by rw [hz.2]; trivial⟩
    exact PySem.W.kia_one (PySem.W.handS_kitx_exc T.hg T.hk T.hs T.hd T.ha T.hn T.ht T.hm) I.kIn J e (fun z => nomatch z) fun tk => ⟨.bl b, H, I.tok tk, rfl, q⟩
  · obtain ⟨u1, u2, rfl, r1, r2⟩ := vals2 r
    obtain rfl : u1 = Value.ref a := r1
    have e2 := kc.eq r2
    subst e2
    obtain ⟨oe, vs, ho, hz, hd⟩ := exH_at I.hok eh
    have hx : ObjOk X.prog X.w H s.heap dd (.xd fs) := I.hok dd _ ea
    obtain ⟨mA, hns, hr⟩ := hx
    obtain ⟨od, hod, hl⟩ := lookIn_ns hns
    have J : PySem.W.InstAt s.heap a oe C (some od) := ⟨ho, hz.1, by unfold PySem.W.notCls; rw [hd] <;> rfl, by rw [hz.2]; exact hod⟩
    exact PySem.W.kia_one (PySem.W.kit_ofExc T) I.kIn J e (fun z => nomatch z) fun tk => ⟨.bl b, H, I.tok tk, rfl, q⟩
end Cm

set_option linter.all false
/-! raise C(x, ..); try with two clauses of which the second catches and keeps -/
namespace Cm
open PySem L2 PySem.Spec PyProof.Rows
def tRaiseMk (C : Addr) (fl : List Str) (W : WX) (ta : TA) : TS := fun _ σ H => ta σ H fun vs H1 => vs.length = fl.length ∧ ∀ (d : Addr) (H' : Hp), Same H1 H' → H' d = some (.xd (fl.zip vs).reverse) → W (.ref C) (some d) σ H'
theorem ps_raiseMk {X : Cx} {x : Str} {C : Addr} {fl : List Str} {j : Nat} {W : WX} {e : Expr} {es : List Expr} {ta : TA} {p pos pos2 : Pos} (hc : X.calm = true) (M : Mk X.prog X.w X.K X.mg X.base C x fl) (hr : Room j X.A) (hk : 2 ≤ j) (hl : fl.length ≤ 1000) (tk : Takes X W) (hg : Gl X x) (ha : PA X (e :: es) ta)
    (hdb : (x == ("__debug__" : Str)) = false := by decide) (he : starEach (e :: es) X.env = (false, eval e X.env) :: starEach es X.env := by rfl) (hpl : (backTo pos (starEach es X.env)).any (·.1) = false := by rfl) :
    PS X (.Raise (some (.Call (.Name x p) (e :: es) [] pos)) Option.none pos2) (tRaiseMk C fl W ta) := by
  obtain ⟨fI, fd, ps, h1, h2, F, b⟩ := M.init
  have ha' : PA X (e :: es) (fun σ H Q => ∃ Q0, ta σ H Q0 ∧ ∀ vs H1, Q0 vs H1 → Q vs H1) := ⟨fun pos pins s σ H Q I ⟨Q0, h0, imp⟩ =>
    wpAny_mono (ha.run pos pins s σ H Q0 I h0) (fun us s1 ⟨vs, H1, I1, r, q⟩ => ⟨vs, H1, I1, r, imp _ _ q⟩) (fun _ _ z => z)⟩
  have R := ps_raise (pos := pos2) hc tk (pmk_oex (p := p) (pos := pos) M.oex h1 h2 F (hr.mono hk) b .nil (fun _ _ _ _ _ _ _ z => z.elim) hg M.g ha' hdb he hpl)
  refine ⟨fun pins s σ H D I h => R.run pins s σ H D I ⟨_, h, fun vs H1 ⟨hv, hq⟩ => ⟨by omega, fun a ha0 => ?_⟩⟩⟩
  refine ⟨a, C, vs, by rw [List.append_nil], hv, M.oex, M.no, upd_same, fun d H' hd ne keep ea ed => ⟨rfl, d, _, ea, ed, ?_, ?_⟩⟩
  · rw [upd_ne ne] at hd
    exact hd
  · have hd1 : H1 d = Option.none := by rw [upd_ne ne] at hd; exact hd
    refine hq d _ (fun b o q => ?_) upd_same
    have hb : b ≠ a := fun z => by
      rw [z, ha0] at q
      cases q
    rw [upd_ne (ne_of_none q hd1), del_ne hb]
    exact keep b o hb (by rw [upd_ne hb]; exact q)
/-- .. of two clauses, the second catches -/
def wHeld2 (K : PySem.W.Frag) (c1 c : Value) (i : Nat) (ts : Addr → TS) (D : Ends) : WX := fun cls d σ H =>
  PySem.W.exmOne K cls c1 = some false ∧ PySem.W.exmOne K cls c = some true ∧ ∀ a, H a = Option.none → ts a { nx := fun σ' H' => D.nx (σ'.set i Option.none) H', rt := D.rt, bk := fun σ' H' => D.bk (σ'.set i Option.none) H', ct := fun σ' H' => D.ct (σ'.set i Option.none) H' } (σ.set i (some (.ref a))) (upd H a (ExH a cls d))
section
variable {X : Cx} {x n x1 n1 : Str} {c c1 : Value} {i : Nat} {body suite suite1 : List Stmt} {b₀ b1 : Stmt} {np pos pos' np1 pos1 : Pos} {tb : WX → TS} {ts : Addr → TS}
theorem ps_try_held2 (hs : X.stack = X.env :: X.outer) (hf : X.env.frame = some X.env.locals) (hN : X.N.Nodup) (hi : X.N[i]? = some n) (hln : X.env.kindOf n = some .local) (hc1 : Names X x1 c1) (hc : Names X x c) (hex : X.ex = [])
    (hb : ∀ (W : WX) (pn : List (Addr × Obj)) (xe : Value → Shared → Prop), Takes (X.tr pn xe) W → PassesOwn (model X.prog X.w) X.A X.env xe → PSs (X.tr pn xe) body (tb W))
    (hsu : ∀ (a : Addr) (pn : List (Addr × Obj)), PSs (X.suite a pn) (b₀ :: suite) (ts a)) :
    PS X (.Try body [.ExceptHandler (some (.Name x1 np1)) (some n1) (b1 :: suite1) pos1, .ExceptHandler (some (.Name x np)) (some n) (b₀ :: suite) pos'] [] [] pos) (fun D σ H => tb (wHeld2 X.K c1 c i ts D) D σ H) := by
  refine ⟨fun pins s σ H D I h => ?_⟩
  have ok := I.ok
  have hfr : X.A.frames = some (X.env :: X.outer) := by rw [ok.frames, hs]
  refine wpAny_Try_except ?_
  refine wpAny_mono ((hb (wHeld2 X.K c1 c i ts D) (X.pn ++ pins) (fun e s₁ => wpAny (model X.prog X.w) X.A (noteFrame e X.env) (fun _ s₂ => wpAny (model X.prog X.w) X.A (setFlight e Option.none) (fun _ s₃ =>
    wpAny (model X.prog X.w) X.A (handleBy e X.env [.ExceptHandler (some (.Name x1 np1)) (some n1) (b1 :: suite1) pos1, .ExceptHandler (some (.Name x np)) (some n) (b₀ :: suite) pos']) (SP X pins D) X.xe s₃) X.xe s₂) X.xe s₁) (fun u s' xx => ?_) PassesOwn.looking).run [] s σ H D (I.toTry _) h) (fun f s1 hsp => ?_) (fun e s1 he => he)
  · obtain ⟨a, B, sI, pins', σ', H', cls, d, rfl, J', nb, up, sky, na, os, ag, hb0, hb1, hyes⟩ := xx
    have J : Inv X pins σ' H' sI := J'.ofTry ok
    have sky' : Sky B (X.env :: X.outer) a (Zc cls d) X.env.locals s'.heap := by rw [← hs]; exact sky
    show wpAny _ _ (noteFrame (.ref a) X.env) _ _ _
    refine Sky.land Zc.steady hfr hf sky' fun h3 fl3 up3 => ?_
    have J3 : Inv X pins σ' H' { s' with heap := h3 } := J.landed nb fl3.1 (up.trans up3) os ag
    obtain ⟨oe3, vs3, he3, hz3, hd3⟩ := fl3.there
    have nfr : a ∉ frs X.stack := fun hm => by
      rw [hs] at hm
      obtain ⟨_, o', e', hnf⟩ := fl3.2.2.1.mem hm
      rw [he3] at e'
      cases e'
      exact hnf _ hd3
    have nsI : sI.heap.get? a = Option.none := by
      cases q : sI.heap.get? a with
      | none => rfl
      | some o =>
        have z := nb a o q nfr
        rw [fl3.2.1] at z
        cases z
    have n0 : X.s_0.heap.get? a = Option.none := by
      cases q : X.s_0.heap.get? a with
      | none => rfl
      | some o =>
        obtain ⟨o', z⟩ := J.base.there a o q (by rw [hex]; exact List.not_mem_nil)
        rw [nsI] at z
        cases z
    have nL : a ≠ X.env.locals := fun z => nfr (by
      rw [hs]
      exact List.mem_filterMap.mpr ⟨X.env, List.mem_cons_self, by rw [hf, z]⟩)
    have nC : ∀ y c, X.env.cells.lookup y = some c → c ≠ a := fun y c e z => by
      obtain ⟨v, o, ho, _⟩ := J.cell y c e
      rw [z, nsI] at ho
      cases ho
    have nP : ∀ p ∈ X.pn ++ pins, p.1 ≠ a := fun p hp z => by
      have q := (J.pin p hp).1
      rw [z, nsI] at q
      cases q
    have S3 := suite0 J3 a
    refine wpAny_handleBy_cons (codeAny_handlers_test ?_) (by intro q; cases q)
    have LT : PySem.W.Looks (model X.prog X.w) h3 (typeOf (.ref a)) cls := fun A Q E s k q => wpAny_typeOf_ref (k _ _ he3) (by rw [hz3.1]; exact q)
    have LM0 := PySem.W.exm_one (M := model X.prog X.w) (J3.kIn) LT hb0
    have test1 : ∀ {Q : Value → Shared → Prop} {E : Value → Shared → Prop}, Q c1 { s' with heap := h3 } → wpAny (model X.prog X.w) (X.A.mark (some (.ref a))) (eval (.Name x1 np1) X.env) Q E { s' with heap := h3 } := fun {Q E} q => by
      obtain ⟨hg, hdbg, hm | ⟨hm, hv, hnn⟩⟩ := hc1
      · exact ld_glob (X := X.suite a (X.pn ++ pins)) S3 hg hm q hdbg
      · exact ld_blt (X := X.suite a (X.pn ++ pins)) S3 hg hm hv q hnn hdbg
    refine test1 (LM0.here ?_)
    show wpAny _ X.A (handleBy (.ref a) X.env [.ExceptHandler (some (.Name x np)) (some n) (b₀ :: suite) pos']) _ _ _
    refine wpAny_handleBy_cons (codeAny_handlers_test ?_) (by intro q; cases q)
    have LM := PySem.W.exm_one (M := model X.prog X.w) (J3.kIn) LT hb1
    have test : ∀ {Q : Value → Shared → Prop} {E : Value → Shared → Prop}, Q c { s' with heap := h3 } → wpAny (model X.prog X.w) (X.A.mark (some (.ref a))) (eval (.Name x np) X.env) Q E { s' with heap := h3 } := fun {Q E} q => by
      obtain ⟨hg, hdbg, hm | ⟨hm, hv, hnn⟩⟩ := hc
      · exact ld_glob (X := X.suite a (X.pn ++ pins)) S3 hg hm q hdbg
      · exact ld_blt (X := X.suite a (X.pn ++ pins)) S3 hg hm hv q hnn hdbg
    refine test (LM.here ?_)
    refine codeAny_handlers_suite_as ?_
    refine HandSPX.lands_againZ fl3 fun h4 fl4 up4 => ?_
    have J4 : Inv X pins σ' H' { s' with heap := h4 } := J.landed nb fl4.1 ((up.trans up3).trans up4) os ag
    obtain ⟨oe4, vs4, he4, hz4, hd4⟩ := fl4.there
    have T4 := track (o := ExH a cls d) J4 na n0 nL nC nP (exH_ok he4 hz4 hd4)
    have S4 := suite0 T4 a
    refine store_ok (X := X.suite a (X.pn ++ pins)) (v := .ref a) S4 hN hi (.inl hln) rfl (fun s5 S5 => ?_) (.inr hln)
    refine wpAny_mono ((hsu a (X.pn ++ pins)).run [] s5 _ _ _ S5 (hyes a na)) (fun f s6 hsp => ?_) (fun _ _ z => False.elim z)
    have end_ : ∀ {σ6 : L2.St} {H6 : Hp} {Q : Shared → Prop}, Inv (X.suite a (X.pn ++ pins)) [] σ6 H6 s6 → (∀ s7, Inv X pins (σ6.set i Option.none) H6 s7 → Q s7) →
        wpAny (model X.prog X.w) X.A (do bindName X.env n .none; unbindBehindTheSuite X.env n pos') (fun _ s7 => Q s7) X.xe s6 := fun {σ6 H6 Q} S6 hq => gone_ok (unsuite0 S6 ok) hN hi hln hq
    cases f with
    | next =>
      obtain ⟨σ6, H6, S6, q6⟩ := hsp
      exact end_ S6 fun s7 J7 => ⟨_, _, J7, q6⟩
    | brk =>
      obtain ⟨σ6, H6, S6, q6⟩ := hsp
      exact end_ S6 fun s7 J7 => ⟨_, _, J7, q6⟩
    | cont =>
      obtain ⟨σ6, H6, S6, q6⟩ := hsp
      exact end_ S6 fun s7 J7 => ⟨_, _, J7, q6⟩
    | ret u =>
      obtain ⟨v6, σ6, H6, S6, r6, q6⟩ := hsp
      exact end_ S6 fun s7 J7 => ⟨_, _, _, J7, r6, q6⟩
  · cases f with
    | next =>
      obtain ⟨σ', H', J', q⟩ := hsp
      exact wpAny_execs_nil ⟨σ', H', J'.ofTry ok, q⟩
    | brk =>
      obtain ⟨σ', H', J', q⟩ := hsp
      exact ⟨σ', H', J'.ofTry ok, q⟩
    | cont =>
      obtain ⟨σ', H', J', q⟩ := hsp
      exact ⟨σ', H', J'.ofTry ok, q⟩
    | ret u =>
      obtain ⟨v, σ', H', J', r, q⟩ := hsp
      exact ⟨v, σ', H', J'.ofTry ok, r, q⟩
end
end Cm

namespace K51
open PySem L2 Cm
def top (i : Nat) : Stmt := PySem.Challenge.pw_goonagain_k51_whole_errors_side_by_side.main.body.getD i (.Pass ⟨0, 0, 0, 0⟩)
structure Txt (mg : Str → Option Value) : Prop where
  abs : mg "abs" = none
  enumerate : mg "enumerate" = none
  int : mg "int" = none
  isinstance : mg "isinstance" = none
  len : mg "len" = none
  range : mg "range" = none
  tuple : mg "tuple" = none
section
variable {P : Program} {w : World} {K : PySem.W.Frag} {mg : Str → Option Value} {base : Heap}
-- mix
abbrev s_l_mix : Stmt := top 23
abbrev N_l_mix : List Str := ["_law_number", "_law_turn", "_law_once", "_law_twice"]
theorem sc_l_mix : FnScope N_l_mix ["_law_number", "_law_turn"] (defScope s_l_mix) := ⟨rfl, rfl, rfl, by decide +kernel, rfl, by decide +kernel, by decide +kernel⟩
theorem ok_mix (T : Txt mg) (D : At K mg "_law_mix" s_l_mix ["_law_number", "_law_turn"]) : Cl P w K mg base 1 "_law_mix" spMix := by
  refine cl_of D sc_l_mix (fun vs H Q E h => ?_) fun f cdv A outer s H vs Q E hr h => ?_
  · obtain ⟨a, b, rfl, _⟩ := h
    rfl
  · obtain ⟨a, b, rfl, k⟩ := h
    refine ⟨_, (pss_cons (ps_set (i := 2) sc_l_mix.nd rfl (Or.inl rfl) (pe_op op_mod (pe_callTy call_int1 (by rfl) T.int (by decide +kernel) (pa_cons (pe_op op_add (pe_op op_add (pe_op op_mul (pv 0) pe_int) (pe_op op_mul (pv 1) pe_int)) pe_int) pa_nil)) pe_int))
      (pss_cons (ps_set (i := 3) sc_l_mix.nd rfl (Or.inl rfl) (pe_op op_mod (pe_callTy call_int1 (by rfl) T.int (by decide +kernel) (pa_cons (pe_op op_add (pe_op op_add (pe_op op_mul (pv 2) (pv 2)) (pe_op op_mul (pe_op op_fdiv (pv 2) pe_int) pe_int)) (pe_op op_mul (pv 1) pe_int)) pa_nil)) pe_int))
      (pss_one (ps_ret (pe_op op_fdiv (pe_op op_mod (pe_callTy call_int1 (by rfl) T.int (by decide +kernel) (pa_cons (pe_op op_add (pe_op op_fdiv (pe_op op_mul (pv 3) (pv 3)) pe_int) (pv 2)) pa_nil)) pe_int) pe_int))))), ?_⟩
    refine ⟨_, rfl, _, _, rfl, rfl, .inr (by decide), ?_⟩
    refine ⟨_, rfl, _, _, rfl, rfl, .inr (by decide), ?_⟩
    refine ⟨_, _, rfl, rfl, _, _, rfl, rfl, .inl ⟨_, rfl, _, _, rfl, rfl, (by show (0 : Int) < _; decide), ?_⟩⟩
    generalize hx : (a * 48271 + b * 16807 + 11) % 2147483647 = x
    have x0 : 0 ≤ x := by omega
    have x1 : x < 2147483647 := by omega
    clear hx
    refine ⟨_, rfl, _, rfl, _, _, rfl, rfl, .inl ⟨by omega, by omega⟩, ?_⟩
    refine ⟨_, rfl, _, _, rfl, rfl, ⟨by decide, by decide⟩, _, _, rfl, rfl, .inr (by decide), ?_⟩
    refine ⟨_, _, rfl, rfl, _, rfl, _, _, rfl, rfl, .inr (by decide), _, _, rfl, rfl, .inl ⟨_, rfl, _, _, rfl, rfl, (by show (0 : Int) < _; decide), ?_⟩⟩
    generalize hy : (x * x + x / 127 * 40692 + b * 69621) % 2147483399 = y
    have y0 : 0 ≤ y := by omega
    have y1 : y < 2147483399 := by omega
    clear hy
    refine ⟨_, rfl, _, rfl, _, _, rfl, rfl, .inl ⟨by omega, by omega⟩, _, _, rfl, rfl, ⟨by decide, by decide⟩, ?_⟩
    refine ⟨_, rfl, _, _, rfl, rfl, .inl ⟨_, rfl, _, _, rfl, rfl, (by show (0 : Int) < _; decide), _, _, rfl, rfl, ⟨by decide, by decide⟩, ?_⟩⟩
    exact k _
-- hand
abbrev s_l_hand : Stmt := top 24
abbrev N_l_hand : List Str := ["_law_script", "_law_total", "_law_k", "_law_cell"]
theorem sc_l_hand : FnScope N_l_hand ["_law_script"] (defScope s_l_hand) := ⟨rfl, rfl, rfl, by decide +kernel, rfl, by decide +kernel, by decide +kernel⟩
theorem ok_hand (T : Txt mg) (D : At K mg "_law_hand" s_l_hand ["_law_script"]) : Cl P w K mg base 1 "_law_hand" (spHand K) := by
  refine cl_of D sc_l_hand (fun vs H Q E h => ?_) fun f cdv A outer s H vs Q E hr h => ?_
  · obtain ⟨a, ns, rfl, _⟩ := h
    rfl
  · obtain ⟨a, ns, rfl, hS, hlen, k⟩ := h
    refine ⟨_, (pss_cons (ps_set (i := 1) sc_l_hand.nd rfl (Or.inl rfl) pe_int)
      (pss_cons (ps_for PassesOwn.never rfl (pi_enum (by rfl) T.enumerate (pa_cons (pv 0) pa_nil)) (pg_tup (by rfl) (pgs_cons (pg_name (i := 2) sc_l_hand.nd rfl (Or.inl rfl)) (pgs_cons (pg_name (i := 3) sc_l_hand.nd rfl (Or.inl rfl)) pgs_nil)))
        (pss_one (ps_set (i := 1) sc_l_hand.nd rfl (Or.inl rfl) (pe_op op_mod (pe_callTy call_int1 (by rfl) T.int (by decide +kernel) (pa_cons (pe_op op_add (pe_op op_mul (pv 1) pe_int) (pe_op op_mul (pe_callTy call_int1 (by rfl) T.int (by decide +kernel) (pa_cons (pv 3) pa_nil)) (pe_op op_add (pv 2) pe_int))) pa_nil)) pe_int))))
      (pss_one (ps_ret (pe_lst (pa_cons (pe_lc (own := [("_law_cell", 3)]) rfl sc_l_hand.nd (pi_list (pv 0)) (blkOk_by (N := N_l_hand) (sc := defScope s_l_hand) (by decide +kernel))
      (fun _ _ _ _ _ => (pg_name (i := 3) sc_l_hand.nd rfl (Or.inl rfl)))
      (fun _ _ _ _ _ => pts_nil)
      (fun _ _ _ _ _ => (pe_callB call_abs (by rfl) T.abs (by decide +kernel) (pa_cons (pe_callTy call_int1 (by rfl) T.int (by decide +kernel) (pa_cons (pv 3) pa_nil)) pa_nil)))) (pa_cons pe_int (pa_cons pe_int (pa_cons (pv 1) pa_nil))))))))), ?_⟩
    refine ⟨_, rfl, a, _, rfl, hS, ?_⟩
    refine for_it (walk_enum (xs := ns.map V.int)) (fun i σ H' => ∃ (t : Int) (v2 v3 : Option V), σ = [some (.ref a), some (.int t), v2, v3] ∧ Same H H') ⟨0, none, none, rfl, Same.refl H⟩ (fun i σ H' _ z => ?_) ?_ ?_
    · obtain ⟨t, v2, v3, rfl, s1⟩ := z
      exact s1.seq hS
    · rintro i x σ H1 H2 hi ⟨t, v2, v3, rfl, s1⟩ ⟨T1, x1, x2, rfl, hT, rfl, e1, e2⟩
      cases e1
      obtain ⟨n, en, rfl⟩ := map_at e2
      refine ⟨T1, _, rfl, .inl (.inl upd_same), rfl, _, _, rfl, _, _, rfl, rfl, ?_⟩
      refine ⟨_, rfl, _, _, rfl, rfl, .inr (by decide), _, rfl, .inl ⟨_, rfl, ?_⟩⟩
      refine ⟨_, rfl, _, _, rfl, rfl, _, _, rfl, rfl, .inr ⟨?_, ?_⟩, ?_⟩
      · rw [List.length_map] at hi
        omega
      · rw [List.length_map] at hi
        omega
      refine ⟨_, _, rfl, rfl, .inl ⟨_, rfl, _, _, rfl, rfl, (by show (0 : Int) < _; decide), ?_⟩⟩
      exact ⟨_, _, _, rfl, s1.trans (same_new hT)⟩
    · rintro σ H1 ⟨t, v2, v3, rfl, s1⟩
      refine ⟨_, rfl, a, rfl, ⟨_, s1.seq hS⟩, fun D hD => ?_⟩
      refine lc_it (walk_list (xs := ns.map V.int)) (fun i H' => ∃ acc : List Int, Same H1 H' ∧ H' D = some (.lst (acc.map V.int)) ∧ acc.length = i) ⟨[], same_new hD, upd_same, rfl⟩ (fun i H' _ z => ?_) ?_ ?_
      · obtain ⟨acc, s2, _⟩ := z
        exact (s1.trans s2).seq hS
      · rintro i x H2 H3 hi ⟨acc, s2, hacc, hl⟩ ⟨rfl, e2⟩
        obtain ⟨n, en, rfl⟩ := map_at e2
        rw [List.length_map] at hi
        refine ⟨rfl, ?_⟩
        refine ⟨_, rfl, .inl ⟨_, rfl, _, rfl, _, hacc, ?_, ?_⟩⟩
        · rw [List.length_map]
          exact Nat.lt_of_lt_of_le (show acc.length < 63 by omega) (by decide)
        · refine ⟨acc ++ [if n < 0 then -n else n], fun b o e => ?_, ?_, ?_⟩
          · have hb : b ≠ D := ne_of_none e hD
            rw [upd_ne hb]
            exact s2 b o e
          · rw [upd_same, List.map_append]
            rfl
          · rw [List.length_append, hl]
            rfl
      · rintro H2 ⟨acc, s2, hacc, hl⟩
        refine ⟨_, rfl, by show 4 ≤ sizeLine; decide, fun p hp => ?_⟩
        rw [List.length_map] at hl
        have npD : D ≠ p := ne_of_none hacc hp
        refine k p D _ ((s1.trans s2).trans (same_new hp)) ((s1.trans s2).free hp) (s1.free hD) ⟨acc, _, _, _, upd_same, ?_, npD, Int.le_refl 0, by omega⟩
        rw [upd_ne npD]
        exact hacc
end
section
variable {P : Program} {w : World} {K : PySem.W.Frag} {mg : Str → Option Value} {base : Heap}
abbrev s_l_draw : Stmt := top 25
abbrev N_l_draw : List Str := ["_law_hand_here", "_law_many", "_law_cell", "_law_rest"]
theorem sc_l_draw : FnScope N_l_draw ["_law_hand_here", "_law_many"] (defScope s_l_draw) := ⟨rfl, rfl, rfl, by decide +kernel, rfl, by decide +kernel, by decide +kernel⟩
theorem ok_draw (T : Txt mg) (c_l_mix : Cl P w K mg base 1 "_law_mix" spMix) (D : At K mg "_law_draw" s_l_draw ["_law_hand_here", "_law_many"]) : Cl P w K mg base 2 "_law_draw" spDraw := by
  refine cl_of D sc_l_draw (fun vs H Q E h => ?_) fun f cdv A outer s H vs Q E hr h => ?_
  · obtain ⟨h, c, m, rfl, _⟩ := h
    rfl
  · obtain ⟨h, c, m, rfl, ⟨cells, i, b, t, e1, e2, nch, hi, hlen⟩, hm0, hm1, k⟩ := h
    refine ⟨_, (pss_mid (ps_if (PW.pt (pw_and (pt_cmpR op_eq (pe_ix ix_list (pv 0) pe_int (fun _ _ => rfl)) pe_int (nomark _)) (pw_and1 (pt_cmpR op_lt (pe_ix ix_list (pv 0) pe_int (fun _ _ => rfl)) (pe_callB call_len_seq (by rfl) T.len (by decide +kernel) (pa_cons (pe_ix ix_list (pv 0) pe_int (fun _ _ => rfl)) pa_nil)) (nomark _)))))
        (pss_cons (ps_set (i := 2) sc_l_draw.nd rfl (Or.inl rfl) (pe_ix ix_list (pe_ix ix_list (pv 0) pe_int (fun _ _ => rfl)) (pe_ix ix_list (pv 0) pe_int (fun _ _ => rfl)) (fun _ _ => rfl)))
        (pss_cons (ps_asg (pe_op op_add (pe_ix ix_list (pv 0) pe_int (fun _ _ => rfl)) pe_int) (pg_sub (pv 0) pe_int set_list))
        (pss_cons (ps_if (pt_cmpR op_lt (pv 2) (pe_op op_pow pe_int pe_int) (nomark _))
          (pss_one (ps_ret (pe_op op_mod (pe_callTy call_int1 (by rfl) T.int (by decide +kernel) (pa_cons (pe_c c_l_mix hr (by decide) (by rfl) (pa_cons (pe_op op_mod (pe_callTy call_int1 (by rfl) T.int (by decide +kernel) (pa_cons (pv 2) pa_nil)) pe_int) (pa_cons (pe_ix ix_list (pv 0) pe_int (fun _ _ => rfl)) pa_nil))) pa_nil)) (pv 1))))
          pss_nil)
        (pss_one (ps_asg (pv 2) (pg_sub (pv 0) pe_int set_list))))))
        pss_nil)
      (pss_cons (ps_if (pt_cmpR op_gt (pe_ix ix_list (pv 0) pe_int (fun _ _ => rfl)) pe_int (nomark _))
        (pss_cons (ps_set (i := 3) sc_l_draw.nd rfl (Or.inl rfl) (pe_ix ix_list (pv 0) pe_int (fun _ _ => rfl)))
        (pss_cons (ps_asg (pe_op op_fdivW (pv 3) (pv 1)) (pg_sub (pv 0) pe_int set_list))
        (pss_one (ps_ret (pe_op op_mod (pe_callTy call_int1 (by rfl) T.int (by decide +kernel) (pa_cons (pv 3) pa_nil)) (pv 1))))))
        pss_nil)
      (pss_cons (ps_asg (pe_op op_mod (pe_callTy call_int1 (by rfl) T.int (by decide +kernel) (pa_cons (pe_op op_add (pe_ix ix_list (pv 0) pe_int (fun _ _ => rfl)) pe_int) pa_nil)) pe_int) (pg_sub (pv 0) pe_int set_list))
      (pss_one (ps_ret (pe_op op_mod (pe_callTy call_int1 (by rfl) T.int (by decide +kernel) (pa_cons (pe_c c_l_mix hr (by decide) (by rfl) (pa_cons (pe_ix ix_list (pv 0) pe_int (fun _ _ => rfl)) (pa_cons (pe_ix ix_list (pv 0) pe_int (fun _ _ => rfl)) pa_nil))) pa_nil)) (pv 1))))))), ?_⟩
    have big : CDivW b m := wide_div (b := 100) hm0 (by omega) (by decide) (by decide)
    have kh0 : ∀ {ys : List V}, Kh h H (upd H h (.lst ys)) := Kp.put (fun a ha => by rw [ha]; exact ⟨_, e1⟩) rfl
    refine ⟨fun σ' H' => ∃ (i b t : Int) (v2 v3 : Option V), σ' = [some (.ref h), some (.int m), v2, v3] ∧ Kh h H H' ∧ H' h = some (.lst [.ref c, .int i, .int b, .int t]) ∧ H' c = some (.lst (cells.map V.int)) ∧ 0 ≤ i, ?_, ?_⟩
    · refine ⟨_, rfl, _, _, _, _, rfl, rfl, .inl (.inl e1), rfl, rfl, _, rfl, ?_⟩
      refine ite2 (fun _ => ?_) (fun _ => ?_)
      · refine ⟨_, rfl, _, _, _, _, rfl, rfl, .inl (.inl e1), rfl, _, rfl, _, _, _, _, rfl, rfl, .inl (.inl e1), rfl, c, _, rfl, .inl (.inl (.inl e2)), _, _, rfl, rfl, _, rfl, ?_⟩
        refine ite2 (fun hlt => ?_) (fun _ => ?_)
        · have hlt' : i < (cells.length : Int) := by
            have := of_decide_eq_true hlt
            rw [List.length_map] at this
            exact this
          obtain ⟨j, rfl⟩ : ∃ j : Nat, i = (j : Int) := ⟨i.toNat, by omega⟩
          have hj : j < cells.length := by omega
          have hat : atI (cells.map V.int) (j : Int) = some (.int cells[j]) := atI_nat (by rw [List.getElem?_map, List.getElem?_eq_getElem hj]; rfl)
          refine ⟨_, rfl, _, _, _, _, rfl, rfl, .inl (.inl e1), rfl, _, rfl, _, _, _, _, rfl, rfl, .inl (.inl e1), rfl, c, _, _, _, rfl, rfl, .inl (.inl e2), hat, ?_⟩
          refine ⟨_, rfl, _, _, _, _, rfl, rfl, .inl (.inl e1), rfl, _, _, rfl, rfl, _, rfl, h, _, _, 1, rfl, rfl, e1, rfl, ?_⟩
          have e2' : upd H h (.lst [.ref c, .int ((j : Int) + 1), .int b, .int t]) c = some (.lst (cells.map V.int)) := by rw [upd_ne nch]; exact e2
          refine ⟨_, rfl, _, _, rfl, rfl, ⟨by decide, by decide, by decide⟩, _, _, rfl, rfl, _, rfl, ?_⟩
          refine ite2 (fun _ => ?_) (fun _ => ?_)
          · refine ⟨_, rfl, .inl ⟨_, rfl, _, _, rfl, rfl, (by show (0 : Int) < _; decide), _, rfl, _, _, _, _, rfl, rfl, .inl (.inl upd_same), rfl, ?_⟩⟩
            refine ⟨_, _, rfl, fun n => .inl ⟨_, rfl, _, rfl, _, _, rfl, rfl, hm0, ?_⟩⟩
            exact k _ _ (Int.emod_nonneg _ (by omega)) (Int.emod_lt_of_pos _ hm0) kh0 ⟨cells, _, _, _, upd_same, e2', nch, by omega, hlen⟩
          · refine ⟨_, rfl, _, rfl, h, _, _, 2, rfl, rfl, upd_same, rfl, ?_⟩
            rw [upd_upd]
            exact ⟨_, _, _, _, _, rfl, kh0, upd_same, by rw [upd_ne nch]; exact e2, by omega⟩
        · exact ⟨i, b, t, _, _, rfl, Kp.refl (fun a ha => by rw [ha]; exact ⟨_, e1⟩), e1, e2, hi⟩
      · exact ⟨i, b, t, _, _, rfl, Kp.refl (fun a ha => by rw [ha]; exact ⟨_, e1⟩), e1, e2, hi⟩
    · rintro σ' H' ⟨i, b, t, v2, v3, rfl, kh, e1, e2, hi⟩
      have kh1 : ∀ {ys : List V}, Kh h H (upd H' h (.lst ys)) := kh.trans (Kp.put (fun a ha => by rw [ha]; exact ⟨_, e1⟩) rfl)
      refine ⟨_, rfl, _, _, _, _, rfl, rfl, .inl (.inl e1), rfl, _, _, rfl, rfl, _, rfl, ?_⟩
      refine ite2 (fun _ => ?_) (fun _ => ?_)
      · refine ⟨_, rfl, _, _, _, _, rfl, rfl, .inl (.inl e1), rfl, _, rfl, _, rfl, _, _, rfl, rfl, big, _, rfl, h, _, _, 2, rfl, rfl, e1, rfl, ?_⟩
        refine ⟨_, rfl, .inl ⟨_, rfl, _, rfl, _, _, rfl, rfl, hm0, ?_⟩⟩
        exact k _ _ (Int.emod_nonneg _ (by omega)) (Int.emod_lt_of_pos _ hm0) kh1 ⟨cells, _, _, _, upd_same, by rw [upd_ne nch]; exact e2, nch, hi, hlen⟩
      · refine ⟨_, rfl, _, _, _, _, rfl, rfl, .inl (.inl e1), rfl, _, _, rfl, rfl, .inl ⟨_, rfl, _, _, rfl, rfl, (by show (0 : Int) < _; decide), _, rfl, h, _, _, 3, rfl, rfl, e1, rfl, ?_⟩⟩
        refine ⟨_, rfl, _, _, _, _, rfl, rfl, .inl (.inl upd_same), rfl, _, rfl, _, _, _, _, rfl, rfl, .inl (.inl upd_same), rfl, ?_⟩
        refine ⟨_, _, rfl, fun n => .inl ⟨_, rfl, _, rfl, _, _, rfl, rfl, hm0, ?_⟩⟩
        exact k _ _ (Int.emod_nonneg _ (by omega)) (Int.emod_lt_of_pos _ hm0) kh1 ⟨cells, _, _, _, upd_same, by rw [upd_ne nch]; exact e2, nch, hi, hlen⟩
end
end K51

namespace K51
open PySem L2 Cm
/-- the def within a class of the text -/
def ini (i : Nat) : Stmt := match top i with
  | .ClassDef _ _ _ b _ _ _ _ _ _ _ => b.getD 0 (.Pass ⟨0, 0, 0, 0⟩)
  | s => s
theorem two_of {α : Type} {xs : List α} (h : xs.length = 2) : ∃ x y, xs = [x, y] := by
  cases xs with
  | nil => simp at h
  | cons a r =>
    obtain ⟨b, rfl⟩ := one_of (show r.length = 1 by simpa using h)
    exact ⟨a, b, rfl⟩
section
variable {P : Program} {w : World} {K : PySem.W.Frag} {mg : Str → Option Value} {base : Heap}
abbrev i_BadText : Stmt := ini 2
abbrev N_BadText : List Str := ["self", "place", "what"]
theorem sc_BadText : FnScope N_BadText N_BadText (defScope i_BadText) := ⟨rfl, rfl, rfl, by decide +kernel, rfl, by decide +kernel, by decide +kernel⟩
theorem ok_BadText {f : Addr} {fd : FuncData} (F : Fun K "__init__" "BadText.__init__" i_BadText f fd) : FnOk P w K mg base CX0 1 f fd N_BadText (spI K ["place", "what"]) := by
  refine F.ok sc_BadText (fun vs H Q E h => ?_) (fun cdv A outer s H vs Q E hr h => ?_)
  · obtain ⟨a, C, xs, rfl, hl, _⟩ := h
    show xs.length + 1 = _
    rw [hl]
    rfl
  · obtain ⟨a, C, xs, rfl, hl, T, no, ha, k⟩ := h
    obtain ⟨x, y, rfl⟩ := two_of hl
    refine ⟨_, (pss_cons (ps_ost (pv 0) (pv 1)) (pss_one (ps_ost (pv 0) (pv 2)))), ?_⟩
    refine ⟨_, rfl, _, rfl, init1 T (no _ List.mem_cons_self) ha fun d H' hd ne keep ea ed => ?_⟩
    refine ⟨_, rfl, _, rfl, init2 T (no _ (List.mem_cons_of_mem _ List.mem_cons_self)) ea ed (show 1 ≤ 900 by decide) ne fun keep2 => ?_⟩
    exact k d _ hd ne (fun b o hb e => keep2 b o (fun z => by rw [z, hd] at e; cases e) (keep b o hb e)) (keep2 _ _ ne.symm ea) upd_same
abbrev i_BadName : Stmt := ini 3
abbrev N_BadName : List Str := ["self", "what", "name"]
theorem sc_BadName : FnScope N_BadName N_BadName (defScope i_BadName) := ⟨rfl, rfl, rfl, by decide +kernel, rfl, by decide +kernel, by decide +kernel⟩
theorem ok_BadName {f : Addr} {fd : FuncData} (F : Fun K "__init__" "BadName.__init__" i_BadName f fd) : FnOk P w K mg base CX0 1 f fd N_BadName (spI K ["what", "name"]) := by
  refine F.ok sc_BadName (fun vs H Q E h => ?_) (fun cdv A outer s H vs Q E hr h => ?_)
  · obtain ⟨a, C, xs, rfl, hl, _⟩ := h
    show xs.length + 1 = _
    rw [hl]
    rfl
  · obtain ⟨a, C, xs, rfl, hl, T, no, ha, k⟩ := h
    obtain ⟨x, y, rfl⟩ := two_of hl
    refine ⟨_, (pss_cons (ps_ost (pv 0) (pv 1)) (pss_one (ps_ost (pv 0) (pv 2)))), ?_⟩
    refine ⟨_, rfl, _, rfl, init1 T (no _ List.mem_cons_self) ha fun d H' hd ne keep ea ed => ?_⟩
    refine ⟨_, rfl, _, rfl, init2 T (no _ (List.mem_cons_of_mem _ List.mem_cons_self)) ea ed (show 1 ≤ 900 by decide) ne fun keep2 => ?_⟩
    exact k d _ hd ne (fun b o hb e => keep2 b o (fun z => by rw [z, hd] at e; cases e) (keep b o hb e)) (keep2 _ _ ne.symm ea) upd_same
abbrev i_BadAsks : Stmt := ini 4
abbrev N_BadAsks : List Str := ["self", "index"]
theorem sc_BadAsks : FnScope N_BadAsks N_BadAsks (defScope i_BadAsks) := ⟨rfl, rfl, rfl, by decide +kernel, rfl, by decide +kernel, by decide +kernel⟩
theorem ok_BadAsks {f : Addr} {fd : FuncData} (F : Fun K "__init__" "BadAsks.__init__" i_BadAsks f fd) : FnOk P w K mg base CX0 1 f fd N_BadAsks (spI K ["index"]) := by
  refine F.ok sc_BadAsks (fun vs H Q E h => ?_) (fun cdv A outer s H vs Q E hr h => ?_)
  · obtain ⟨a, C, xs, rfl, hl, _⟩ := h
    show xs.length + 1 = _
    rw [hl]
    rfl
  · obtain ⟨a, C, xs, rfl, hl, T, no, ha, k⟩ := h
    obtain ⟨x, rfl⟩ := one_of hl
    refine ⟨_, pss_one (ps_ost (pv 0) (pv 1)), ?_⟩
    exact ⟨_, rfl, _, rfl, init1 T (no _ List.mem_cons_self) ha fun d H' hd ne keep ea ed => k d H' hd ne keep ea ed⟩
abbrev i_BadTurnName : Stmt := ini 5
abbrev N_BadTurnName : List Str := ["self", "name"]
theorem sc_BadTurnName : FnScope N_BadTurnName N_BadTurnName (defScope i_BadTurnName) := ⟨rfl, rfl, rfl, by decide +kernel, rfl, by decide +kernel, by decide +kernel⟩
theorem ok_BadTurnName {f : Addr} {fd : FuncData} (F : Fun K "__init__" "BadTurnName.__init__" i_BadTurnName f fd) : FnOk P w K mg base CX0 1 f fd N_BadTurnName (spI K ["name"]) := by
  refine F.ok sc_BadTurnName (fun vs H Q E h => ?_) (fun cdv A outer s H vs Q E hr h => ?_)
  · obtain ⟨a, C, xs, rfl, hl, _⟩ := h
    show xs.length + 1 = _
    rw [hl]
    rfl
  · obtain ⟨a, C, xs, rfl, hl, T, no, ha, k⟩ := h
    obtain ⟨x, rfl⟩ := one_of hl
    refine ⟨_, pss_one (ps_ost (pv 0) (pv 1)), ?_⟩
    exact ⟨_, rfl, _, rfl, init1 T (no _ List.mem_cons_self) ha fun d H' hd ne keep ea ed => k d H' hd ne keep ea ed⟩
abbrev i_NoTurn : Stmt := ini 6
abbrev N_NoTurn : List Str := ["self", "path", "name"]
theorem sc_NoTurn : FnScope N_NoTurn N_NoTurn (defScope i_NoTurn) := ⟨rfl, rfl, rfl, by decide +kernel, rfl, by decide +kernel, by decide +kernel⟩
theorem ok_NoTurn {f : Addr} {fd : FuncData} (F : Fun K "__init__" "NoTurn.__init__" i_NoTurn f fd) : FnOk P w K mg base CX0 1 f fd N_NoTurn (spI K ["path", "name"]) := by
  refine F.ok sc_NoTurn (fun vs H Q E h => ?_) (fun cdv A outer s H vs Q E hr h => ?_)
  · obtain ⟨a, C, xs, rfl, hl, _⟩ := h
    show xs.length + 1 = _
    rw [hl]
    rfl
  · obtain ⟨a, C, xs, rfl, hl, T, no, ha, k⟩ := h
    obtain ⟨x, y, rfl⟩ := two_of hl
    refine ⟨_, (pss_cons (ps_ost (pv 0) (pv 1)) (pss_one (ps_ost (pv 0) (pv 2)))), ?_⟩
    refine ⟨_, rfl, _, rfl, init1 T (no _ List.mem_cons_self) ha fun d H' hd ne keep ea ed => ?_⟩
    refine ⟨_, rfl, _, rfl, init2 T (no _ (List.mem_cons_of_mem _ List.mem_cons_self)) ea ed (show 1 ≤ 900 by decide) ne fun keep2 => ?_⟩
    exact k d _ hd ne (fun b o hb e => keep2 b o (fun z => by rw [z, hd] at e; cases e) (keep b o hb e)) (keep2 _ _ ne.symm ea) upd_same
abbrev i_BadCode : Stmt := ini 7
abbrev N_BadCode : List Str := ["self", "fault"]
theorem sc_BadCode : FnScope N_BadCode N_BadCode (defScope i_BadCode) := ⟨rfl, rfl, rfl, by decide +kernel, rfl, by decide +kernel, by decide +kernel⟩
theorem ok_BadCode {f : Addr} {fd : FuncData} (F : Fun K "__init__" "BadCode.__init__" i_BadCode f fd) : FnOk P w K mg base CX0 1 f fd N_BadCode (spI K ["fault"]) := by
  refine F.ok sc_BadCode (fun vs H Q E h => ?_) (fun cdv A outer s H vs Q E hr h => ?_)
  · obtain ⟨a, C, xs, rfl, hl, _⟩ := h
    show xs.length + 1 = _
    rw [hl]
    rfl
  · obtain ⟨a, C, xs, rfl, hl, T, no, ha, k⟩ := h
    obtain ⟨x, rfl⟩ := one_of hl
    refine ⟨_, pss_one (ps_ost (pv 0) (pv 1)), ?_⟩
    exact ⟨_, rfl, _, rfl, init1 T (no _ List.mem_cons_self) ha fun d H' hd ne keep ea ed => k d H' hd ne keep ea ed⟩
abbrev i_NoKeep : Stmt := ini 8
abbrev N_NoKeep : List Str := ["self", "path"]
theorem sc_NoKeep : FnScope N_NoKeep N_NoKeep (defScope i_NoKeep) := ⟨rfl, rfl, rfl, by decide +kernel, rfl, by decide +kernel, by decide +kernel⟩
theorem ok_NoKeep {f : Addr} {fd : FuncData} (F : Fun K "__init__" "NoKeep.__init__" i_NoKeep f fd) : FnOk P w K mg base CX0 1 f fd N_NoKeep (spI K ["path"]) := by
  refine F.ok sc_NoKeep (fun vs H Q E h => ?_) (fun cdv A outer s H vs Q E hr h => ?_)
  · obtain ⟨a, C, xs, rfl, hl, _⟩ := h
    show xs.length + 1 = _
    rw [hl]
    rfl
  · obtain ⟨a, C, xs, rfl, hl, T, no, ha, k⟩ := h
    obtain ⟨x, rfl⟩ := one_of hl
    refine ⟨_, pss_one (ps_ost (pv 0) (pv 1)), ?_⟩
    exact ⟨_, rfl, _, rfl, init1 T (no _ List.mem_cons_self) ha fun d H' hd ne keep ea ed => k d H' hd ne keep ea ed⟩
abbrev i_BadListing : Stmt := ini 9
abbrev N_BadListing : List Str := ["self", "line"]
theorem sc_BadListing : FnScope N_BadListing N_BadListing (defScope i_BadListing) := ⟨rfl, rfl, rfl, by decide +kernel, rfl, by decide +kernel, by decide +kernel⟩
theorem ok_BadListing {f : Addr} {fd : FuncData} (F : Fun K "__init__" "BadListing.__init__" i_BadListing f fd) : FnOk P w K mg base CX0 1 f fd N_BadListing (spI K ["line"]) := by
  refine F.ok sc_BadListing (fun vs H Q E h => ?_) (fun cdv A outer s H vs Q E hr h => ?_)
  · obtain ⟨a, C, xs, rfl, hl, _⟩ := h
    show xs.length + 1 = _
    rw [hl]
    rfl
  · obtain ⟨a, C, xs, rfl, hl, T, no, ha, k⟩ := h
    obtain ⟨x, rfl⟩ := one_of hl
    refine ⟨_, pss_one (ps_ost (pv 0) (pv 1)), ?_⟩
    exact ⟨_, rfl, _, rfl, init1 T (no _ List.mem_cons_self) ha fun d H' hd ne keep ea ed => k d H' hd ne keep ea ed⟩
abbrev i_BadJumps : Stmt := ini 10
abbrev N_BadJumps : List Str := ["self", "fault"]
theorem sc_BadJumps : FnScope N_BadJumps N_BadJumps (defScope i_BadJumps) := ⟨rfl, rfl, rfl, by decide +kernel, rfl, by decide +kernel, by decide +kernel⟩
theorem ok_BadJumps {f : Addr} {fd : FuncData} (F : Fun K "__init__" "BadJumps.__init__" i_BadJumps f fd) : FnOk P w K mg base CX0 1 f fd N_BadJumps (spI K ["fault"]) := by
  refine F.ok sc_BadJumps (fun vs H Q E h => ?_) (fun cdv A outer s H vs Q E hr h => ?_)
  · obtain ⟨a, C, xs, rfl, hl, _⟩ := h
    show xs.length + 1 = _
    rw [hl]
    rfl
  · obtain ⟨a, C, xs, rfl, hl, T, no, ha, k⟩ := h
    obtain ⟨x, rfl⟩ := one_of hl
    refine ⟨_, pss_one (ps_ost (pv 0) (pv 1)), ?_⟩
    exact ⟨_, rfl, _, rfl, init1 T (no _ List.mem_cons_self) ha fun d H' hd ne keep ea ed => k d H' hd ne keep ea ed⟩
abbrev i_BadKind : Stmt := ini 11
abbrev N_BadKind : List Str := ["self", "kind"]
theorem sc_BadKind : FnScope N_BadKind N_BadKind (defScope i_BadKind) := ⟨rfl, rfl, rfl, by decide +kernel, rfl, by decide +kernel, by decide +kernel⟩
theorem ok_BadKind {f : Addr} {fd : FuncData} (F : Fun K "__init__" "BadKind.__init__" i_BadKind f fd) : FnOk P w K mg base CX0 1 f fd N_BadKind (spI K ["kind"]) := by
  refine F.ok sc_BadKind (fun vs H Q E h => ?_) (fun cdv A outer s H vs Q E hr h => ?_)
  · obtain ⟨a, C, xs, rfl, hl, _⟩ := h
    show xs.length + 1 = _
    rw [hl]
    rfl
  · obtain ⟨a, C, xs, rfl, hl, T, no, ha, k⟩ := h
    obtain ⟨x, rfl⟩ := one_of hl
    refine ⟨_, pss_one (ps_ost (pv 0) (pv 1)), ?_⟩
    exact ⟨_, rfl, _, rfl, init1 T (no _ List.mem_cons_self) ha fun d H' hd ne keep ea ed => k d H' hd ne keep ea ed⟩
abbrev i_Unfit : Stmt := ini 12
abbrev N_Unfit : List Str := ["self", "word", "birth"]
theorem sc_Unfit : FnScope N_Unfit N_Unfit (defScope i_Unfit) := ⟨rfl, rfl, rfl, by decide +kernel, rfl, by decide +kernel, by decide +kernel⟩
theorem ok_Unfit {f : Addr} {fd : FuncData} (F : Fun K "__init__" "Unfit.__init__" i_Unfit f fd) : FnOk P w K mg base CX0 1 f fd N_Unfit (spI K ["word", "birth"]) := by
  refine F.ok sc_Unfit (fun vs H Q E h => ?_) (fun cdv A outer s H vs Q E hr h => ?_)
  · obtain ⟨a, C, xs, rfl, hl, _⟩ := h
    show xs.length + 1 = _
    rw [hl]
    rfl
  · obtain ⟨a, C, xs, rfl, hl, T, no, ha, k⟩ := h
    obtain ⟨x, y, rfl⟩ := two_of hl
    refine ⟨_, (pss_cons (ps_ost (pv 0) (pv 1)) (pss_one (ps_ost (pv 0) (pv 2)))), ?_⟩
    refine ⟨_, rfl, _, rfl, init1 T (no _ List.mem_cons_self) ha fun d H' hd ne keep ea ed => ?_⟩
    refine ⟨_, rfl, _, rfl, init2 T (no _ (List.mem_cons_of_mem _ List.mem_cons_self)) ea ed (show 1 ≤ 900 by decide) ne fun keep2 => ?_⟩
    exact k d _ hd ne (fun b o hb e => keep2 b o (fun z => by rw [z, hd] at e; cases e) (keep b o hb e)) (keep2 _ _ ne.symm ea) upd_same
abbrev i_BadStanding : Stmt := ini 13
abbrev N_BadStanding : List Str := ["self", "place", "what"]
theorem sc_BadStanding : FnScope N_BadStanding N_BadStanding (defScope i_BadStanding) := ⟨rfl, rfl, rfl, by decide +kernel, rfl, by decide +kernel, by decide +kernel⟩
theorem ok_BadStanding {f : Addr} {fd : FuncData} (F : Fun K "__init__" "BadStanding.__init__" i_BadStanding f fd) : FnOk P w K mg base CX0 1 f fd N_BadStanding (spI K ["place", "what"]) := by
  refine F.ok sc_BadStanding (fun vs H Q E h => ?_) (fun cdv A outer s H vs Q E hr h => ?_)
  · obtain ⟨a, C, xs, rfl, hl, _⟩ := h
    show xs.length + 1 = _
    rw [hl]
    rfl
  · obtain ⟨a, C, xs, rfl, hl, T, no, ha, k⟩ := h
    obtain ⟨x, y, rfl⟩ := two_of hl
    refine ⟨_, (pss_cons (ps_ost (pv 0) (pv 1)) (pss_one (ps_ost (pv 0) (pv 2)))), ?_⟩
    refine ⟨_, rfl, _, rfl, init1 T (no _ List.mem_cons_self) ha fun d H' hd ne keep ea ed => ?_⟩
    refine ⟨_, rfl, _, rfl, init2 T (no _ (List.mem_cons_of_mem _ List.mem_cons_self)) ea ed (show 1 ≤ 900 by decide) ne fun keep2 => ?_⟩
    exact k d _ hd ne (fun b o hb e => keep2 b o (fun z => by rw [z, hd] at e; cases e) (keep b o hb e)) (keep2 _ _ ne.symm ea) upd_same
abbrev i_NoCall : Stmt := ini 14
abbrev N_NoCall : List Str := ["self", "outcome"]
theorem sc_NoCall : FnScope N_NoCall N_NoCall (defScope i_NoCall) := ⟨rfl, rfl, rfl, by decide +kernel, rfl, by decide +kernel, by decide +kernel⟩
theorem ok_NoCall {f : Addr} {fd : FuncData} (F : Fun K "__init__" "NoCall.__init__" i_NoCall f fd) : FnOk P w K mg base CX0 1 f fd N_NoCall (spI K ["outcome"]) := by
  refine F.ok sc_NoCall (fun vs H Q E h => ?_) (fun cdv A outer s H vs Q E hr h => ?_)
  · obtain ⟨a, C, xs, rfl, hl, _⟩ := h
    show xs.length + 1 = _
    rw [hl]
    rfl
  · obtain ⟨a, C, xs, rfl, hl, T, no, ha, k⟩ := h
    obtain ⟨x, rfl⟩ := one_of hl
    refine ⟨_, pss_one (ps_ost (pv 0) (pv 1)), ?_⟩
    exact ⟨_, rfl, _, rfl, init1 T (no _ List.mem_cons_self) ha fun d H' hd ne keep ea ed => k d H' hd ne keep ea ed⟩
abbrev i_BadPlan : Stmt := ini 15
abbrev N_BadPlan : List Str := ["self", "place"]
theorem sc_BadPlan : FnScope N_BadPlan N_BadPlan (defScope i_BadPlan) := ⟨rfl, rfl, rfl, by decide +kernel, rfl, by decide +kernel, by decide +kernel⟩
theorem ok_BadPlan {f : Addr} {fd : FuncData} (F : Fun K "__init__" "BadPlan.__init__" i_BadPlan f fd) : FnOk P w K mg base CX0 1 f fd N_BadPlan (spI K ["place"]) := by
  refine F.ok sc_BadPlan (fun vs H Q E h => ?_) (fun cdv A outer s H vs Q E hr h => ?_)
  · obtain ⟨a, C, xs, rfl, hl, _⟩ := h
    show xs.length + 1 = _
    rw [hl]
    rfl
  · obtain ⟨a, C, xs, rfl, hl, T, no, ha, k⟩ := h
    obtain ⟨x, rfl⟩ := one_of hl
    refine ⟨_, pss_one (ps_ost (pv 0) (pv 1)), ?_⟩
    exact ⟨_, rfl, _, rfl, init1 T (no _ List.mem_cons_self) ha fun d H' hd ne keep ea ed => k d H' hd ne keep ea ed⟩
abbrev i_BadMost : Stmt := ini 16
abbrev N_BadMost : List Str := ["self", "most"]
theorem sc_BadMost : FnScope N_BadMost N_BadMost (defScope i_BadMost) := ⟨rfl, rfl, rfl, by decide +kernel, rfl, by decide +kernel, by decide +kernel⟩
theorem ok_BadMost {f : Addr} {fd : FuncData} (F : Fun K "__init__" "BadMost.__init__" i_BadMost f fd) : FnOk P w K mg base CX0 1 f fd N_BadMost (spI K ["most"]) := by
  refine F.ok sc_BadMost (fun vs H Q E h => ?_) (fun cdv A outer s H vs Q E hr h => ?_)
  · obtain ⟨a, C, xs, rfl, hl, _⟩ := h
    show xs.length + 1 = _
    rw [hl]
    rfl
  · obtain ⟨a, C, xs, rfl, hl, T, no, ha, k⟩ := h
    obtain ⟨x, rfl⟩ := one_of hl
    refine ⟨_, pss_one (ps_ost (pv 0) (pv 1)), ?_⟩
    exact ⟨_, rfl, _, rfl, init1 T (no _ List.mem_cons_self) ha fun d H' hd ne keep ea ed => k d H' hd ne keep ea ed⟩
abbrev i_BadCount : Stmt := ini 17
abbrev N_BadCount : List Str := ["self", "many"]
theorem sc_BadCount : FnScope N_BadCount N_BadCount (defScope i_BadCount) := ⟨rfl, rfl, rfl, by decide +kernel, rfl, by decide +kernel, by decide +kernel⟩
theorem ok_BadCount {f : Addr} {fd : FuncData} (F : Fun K "__init__" "BadCount.__init__" i_BadCount f fd) : FnOk P w K mg base CX0 1 f fd N_BadCount (spI K ["many"]) := by
  refine F.ok sc_BadCount (fun vs H Q E h => ?_) (fun cdv A outer s H vs Q E hr h => ?_)
  · obtain ⟨a, C, xs, rfl, hl, _⟩ := h
    show xs.length + 1 = _
    rw [hl]
    rfl
  · obtain ⟨a, C, xs, rfl, hl, T, no, ha, k⟩ := h
    obtain ⟨x, rfl⟩ := one_of hl
    refine ⟨_, pss_one (ps_ost (pv 0) (pv 1)), ?_⟩
    exact ⟨_, rfl, _, rfl, init1 T (no _ List.mem_cons_self) ha fun d H' hd ne keep ea ed => k d H' hd ne keep ea ed⟩
abbrev i_BadHandover : Stmt := ini 18
abbrev N_BadHandover : List Str := ["self", "index"]
theorem sc_BadHandover : FnScope N_BadHandover N_BadHandover (defScope i_BadHandover) := ⟨rfl, rfl, rfl, by decide +kernel, rfl, by decide +kernel, by decide +kernel⟩
theorem ok_BadHandover {f : Addr} {fd : FuncData} (F : Fun K "__init__" "BadHandover.__init__" i_BadHandover f fd) : FnOk P w K mg base CX0 1 f fd N_BadHandover (spI K ["index"]) := by
  refine F.ok sc_BadHandover (fun vs H Q E h => ?_) (fun cdv A outer s H vs Q E hr h => ?_)
  · obtain ⟨a, C, xs, rfl, hl, _⟩ := h
    show xs.length + 1 = _
    rw [hl]
    rfl
  · obtain ⟨a, C, xs, rfl, hl, T, no, ha, k⟩ := h
    obtain ⟨x, rfl⟩ := one_of hl
    refine ⟨_, pss_one (ps_ost (pv 0) (pv 1)), ?_⟩
    exact ⟨_, rfl, _, rfl, init1 T (no _ List.mem_cons_self) ha fun d H' hd ne keep ea ed => k d H' hd ne keep ea ed⟩
abbrev i_Ahead : Stmt := ini 19
abbrev N_Ahead : List Str := ["self", "shown"]
theorem sc_Ahead : FnScope N_Ahead N_Ahead (defScope i_Ahead) := ⟨rfl, rfl, rfl, by decide +kernel, rfl, by decide +kernel, by decide +kernel⟩
theorem ok_Ahead {f : Addr} {fd : FuncData} (F : Fun K "__init__" "Ahead.__init__" i_Ahead f fd) : FnOk P w K mg base CX0 1 f fd N_Ahead (spI K ["shown"]) := by
  refine F.ok sc_Ahead (fun vs H Q E h => ?_) (fun cdv A outer s H vs Q E hr h => ?_)
  · obtain ⟨a, C, xs, rfl, hl, _⟩ := h
    show xs.length + 1 = _
    rw [hl]
    rfl
  · obtain ⟨a, C, xs, rfl, hl, T, no, ha, k⟩ := h
    obtain ⟨x, rfl⟩ := one_of hl
    refine ⟨_, pss_one (ps_ost (pv 0) (pv 1)), ?_⟩
    exact ⟨_, rfl, _, rfl, init1 T (no _ List.mem_cons_self) ha fun d H' hd ne keep ea ed => k d H' hd ne keep ea ed⟩
abbrev i_BadKept : Stmt := ini 20
abbrev N_BadKept : List Str := ["self", "calls"]
theorem sc_BadKept : FnScope N_BadKept N_BadKept (defScope i_BadKept) := ⟨rfl, rfl, rfl, by decide +kernel, rfl, by decide +kernel, by decide +kernel⟩
theorem ok_BadKept {f : Addr} {fd : FuncData} (F : Fun K "__init__" "BadKept.__init__" i_BadKept f fd) : FnOk P w K mg base CX0 1 f fd N_BadKept (spI K ["calls"]) := by
  refine F.ok sc_BadKept (fun vs H Q E h => ?_) (fun cdv A outer s H vs Q E hr h => ?_)
  · obtain ⟨a, C, xs, rfl, hl, _⟩ := h
    show xs.length + 1 = _
    rw [hl]
    rfl
  · obtain ⟨a, C, xs, rfl, hl, T, no, ha, k⟩ := h
    obtain ⟨x, rfl⟩ := one_of hl
    refine ⟨_, pss_one (ps_ost (pv 0) (pv 1)), ?_⟩
    exact ⟨_, rfl, _, rfl, init1 T (no _ List.mem_cons_self) ha fun d H' hd ne keep ea ed => k d H' hd ne keep ea ed⟩
abbrev i_BadDeed : Stmt := ini 21
abbrev N_BadDeed : List Str := ["self", "index"]
theorem sc_BadDeed : FnScope N_BadDeed N_BadDeed (defScope i_BadDeed) := ⟨rfl, rfl, rfl, by decide +kernel, rfl, by decide +kernel, by decide +kernel⟩
theorem ok_BadDeed {f : Addr} {fd : FuncData} (F : Fun K "__init__" "BadDeed.__init__" i_BadDeed f fd) : FnOk P w K mg base CX0 1 f fd N_BadDeed (spI K ["index"]) := by
  refine F.ok sc_BadDeed (fun vs H Q E h => ?_) (fun cdv A outer s H vs Q E hr h => ?_)
  · obtain ⟨a, C, xs, rfl, hl, _⟩ := h
    show xs.length + 1 = _
    rw [hl]
    rfl
  · obtain ⟨a, C, xs, rfl, hl, T, no, ha, k⟩ := h
    obtain ⟨x, rfl⟩ := one_of hl
    refine ⟨_, pss_one (ps_ost (pv 0) (pv 1)), ?_⟩
    exact ⟨_, rfl, _, rfl, init1 T (no _ List.mem_cons_self) ha fun d H' hd ne keep ea ed => k d H' hd ne keep ea ed⟩
end
end K51

namespace K51
open PySem L2 Cm
theorem sok_app {x y : Str} (a : sok x) (b : sok y) : sok (x ++ y) := by
  have e : (x ++ y : Str).cps = x.cps ++ y.cps := rfl
  unfold sok PyData.strOk at *
  rw [e, Array.all_append, a, b]
  rfl
theorem len_app (x y : Str) : (x ++ y : Str).length = x.length + y.length := by
  show (x.cps ++ y.cps).size = x.cps.size + y.cps.size
  simp
def lets : Str := "abcdefghijklmnopqrstuvwxyz"
def signs : Str := lets ++ "0123456789-"
theorem let_at {i : Int} (h0 : 0 ≤ i) (h1 : i < 26) : ∃ c, atI lets.cps.toList i = some c ∧ sok ⟨#[c]⟩ := by
  have key : ∀ j < 26, ∃ c, lets.cps.toList[j]? = some c ∧ decide (c < 0x110000) = true := by
    intro j hj
    have hl : lets.cps.toList.length = 26 := by decide +kernel
    obtain ⟨c, e⟩ : ∃ c, lets.cps.toList[j]? = some c := ⟨lets.cps.toList[j], List.getElem?_eq_getElem (by omega)⟩
    have all : ∀ c ∈ lets.cps.toList, decide (c < 0x110000) = true := by decide +kernel
    exact ⟨c, e, all c (List.mem_of_getElem? e)⟩
  obtain ⟨m, rfl⟩ : ∃ m : Nat, i = (m : Int) := ⟨i.toNat, by omega⟩
  obtain ⟨c, e, hc⟩ := key m (by omega)
  refine ⟨c, atI_nat e, ?_⟩
  show (#[c] : Array Nat).all (· < 0x110000) = true
  simpa using hc
theorem sign_at {i : Int} (h0 : 0 ≤ i) (h1 : i < 37) : ∃ c, atI signs.cps.toList i = some c ∧ sok ⟨#[c]⟩ := by
  have key : ∀ j < 37, ∃ c, signs.cps.toList[j]? = some c ∧ decide (c < 0x110000) = true := by
    intro j hj
    have hl : signs.cps.toList.length = 37 := by decide +kernel
    obtain ⟨c, e⟩ : ∃ c, signs.cps.toList[j]? = some c := ⟨signs.cps.toList[j], List.getElem?_eq_getElem (by omega)⟩
    have all : ∀ c ∈ signs.cps.toList, decide (c < 0x110000) = true := by decide +kernel
    exact ⟨c, e, all c (List.mem_of_getElem? e)⟩
  obtain ⟨m, rfl⟩ : ∃ m : Nat, i = (m : Int) := ⟨i.toNat, by omega⟩
  obtain ⟨c, e, hc⟩ := key m (by omega)
  refine ⟨c, atI_nat e, ?_⟩
  show (#[c] : Array Nat).all (· < 0x110000) = true
  simpa using hc
def spName : Sp := fun vs H Q _ => ∃ (h c : Addr), vs = [.ref h] ∧ Hand H h c ∧ ∀ (x : Str) (H' : Hp), sok x → x.length ≤ 100 → Kh h H H' → Hand H' h c → Q (.str x) H'
section
variable {P : Program} {w : World} {K : PySem.W.Frag} {mg : Str → Option Value} {base : Heap}
abbrev s_l_name : Stmt := top 26
abbrev N_l_name : List Str := ["_law_hand_here", "_law_letters", "_law_name_here", "_law_k"]
theorem sc_l_name : FnScope N_l_name ["_law_hand_here"] (defScope s_l_name) := ⟨rfl, rfl, rfl, by decide +kernel, rfl, by decide +kernel, by decide +kernel⟩
theorem ok_name (T : Txt mg) (c_l_draw : Cl P w K mg base 2 "_law_draw" spDraw) (D : At K mg "_law_name" s_l_name ["_law_hand_here"]) : Cl P w K mg base 3 "_law_name" spName := by
  refine cl_of D sc_l_name (fun vs H Q E h => ?_) fun f cdv A outer s H vs Q E hr h => ?_
  · obtain ⟨h, c, rfl, _⟩ := h
    rfl
  · obtain ⟨h, c, rfl, hh, q⟩ := h
    refine ⟨_, (pss_cons (ps_set (i := 1) sc_l_name.nd rfl (Or.inl rfl) pe_str)
      (pss_cons (ps_set (i := 2) sc_l_name.nd rfl (Or.inl rfl) (pe_ix ix_str (pv 1) (pe_c c_l_draw hr (by decide) (by rfl) (pa_cons (pv 0) (pa_cons pe_int pa_nil))) (fun _ _ => rfl)))
      (pss_mid (ps_for PassesOwn.never rfl (pi_range1 (by rfl) T.range (pa_cons (pe_ix ix_tup (pe_tup (pa_cons pe_int (pa_cons pe_int (pa_cons pe_int (pa_cons pe_int (pa_cons pe_int (pa_cons pe_int pa_nil))))))) (pe_c c_l_draw hr (by decide) (by rfl) (pa_cons (pv 0) (pa_cons pe_int pa_nil))) (fun _ _ => rfl)) pa_nil)) (pg_name (i := 3) sc_l_name.nd rfl (Or.inl rfl))
        (pss_one (ps_set (i := 2) sc_l_name.nd rfl (Or.inl rfl) (pe_op op_add_str (pv 2) (pe_ix ix_str (pe_op op_add_str (pv 1) pe_str) (pe_c c_l_draw hr (by decide) (by rfl) (pa_cons (pv 0) (pa_cons pe_int pa_nil))) (fun _ _ => rfl))))))
      (pss_cons (ps_if (pt_inW (pv 2) (.cons (.cons (.cons (.cons (.cons (.cons (.cons (.cons (.cons (.cons (.cons (.cons (.cons (.cons (.cons (.cons .nil)))))))))))))))) (show 16 ≤ sizeLine by decide) (by rfl))
        (pss_one (ps_ret (pe_op op_add_str (pv 2) pe_str)))
        pss_nil)
      (pss_one (ps_ret (pe_ifExp (pt_inW (pv 2) (.cons (.cons (.cons (.cons (.cons .nil))))) (show 5 ≤ sizeLine by decide) (by rfl)) (pe_op op_add_str (pv 2) pe_str) (pv 2)))))))), ?_⟩
    refine ⟨_, rfl, _, rfl, h, c, _, rfl, hh, by decide, by decide, fun n H1 n0 n1 k1 hh1 => ?_⟩
    obtain ⟨c1, e1, hs1⟩ := let_at n0 n1
    refine ⟨lets, n, c1, rfl, rfl, Nat.le_trans (show lets.length ≤ 26 by decide +kernel) (by decide), e1, ?_⟩
    refine ⟨fun σ' H' => ∃ (x : Str) (v3 : Option V), σ' = [some (.ref h), some (.str lets), some (.str x), v3] ∧ sok x ∧ x.length ≤ 20 ∧ Kh h H H' ∧ Hand H' h c, ?_, ?_⟩
    · refine ⟨by show 6 ≤ sizeLine; decide, fun tq htq => ?_⟩
      have s2 := same_new (o := .tup [.int 0, .int 0, .int 1, .int 2, .int 4, .int 11]) htq
      have hq : SqT K (upd H1 tq (.tup [.int 0, .int 0, .int 1, .int 2, .int 4, .int 11])) tq [.int 0, .int 0, .int 1, .int 2, .int 4, .int 11] := .inl (.inl upd_same)
      generalize upd H1 tq (.tup [.int 0, .int 0, .int 1, .int 2, .int 4, .int 11]) = H2 at *
      refine ⟨_, rfl, h, c, _, rfl, hh1.same s2, by decide, by decide, fun j H3 j0 j1 k3 hh3 => ?_⟩
      obtain ⟨m, hm, em⟩ : ∃ m : Nat, m ≤ 11 ∧ atI [V.int 0, .int 0, .int 1, .int 2, .int 4, .int 11] j = some (.int (m : Nat)) := by
        have : j = 0 ∨ j = 1 ∨ j = 2 ∨ j = 3 ∨ j = 4 ∨ j = 5 := by omega
        rcases this with rfl | rfl | rfl | rfl | rfl | rfl
        · exact ⟨0, by decide, atI_nat (j := 0) rfl⟩
        · exact ⟨0, by decide, atI_nat (j := 1) rfl⟩
        · exact ⟨1, by decide, atI_nat (j := 2) rfl⟩
        · exact ⟨2, by decide, atI_nat (j := 3) rfl⟩
        · exact ⟨4, by decide, atI_nat (j := 4) rfl⟩
        · exact ⟨11, by decide, atI_nat (j := 5) rfl⟩
      refine ⟨tq, _, _, _, rfl, rfl, k3.tup hq, em, _, rfl, by omega, by omega, ?_⟩
      refine for_it (walk_range (lo := 0) (n := m)) (fun i σ' H' => ∃ (x : Str) (v3 : Option V), σ' = [some (.ref h), some (.str lets), some (.str x), v3] ∧ sok x ∧ x.length ≤ 1 + i ∧ Kh h H H' ∧ Hand H' h c)
        ⟨⟨#[c1]⟩, none, rfl, hs1, Nat.le_refl _, (k1.trans (hh1.kh s2)).trans k3, hh3⟩ (fun _ _ _ _ _ => trivial) ?_ ?_
      · rintro i x σ' H4 H5 hi ⟨y, v3, rfl, sy, ly, ky, hy⟩ ⟨rfl, rfl⟩
        refine ⟨_, rfl, _, rfl, lets, "0123456789-", rfl, rfl, Nat.le_trans (show lets.length + ("0123456789-" : Str).length ≤ 37 by decide +kernel) (by decide), _, rfl, h, c, _, rfl, hy, by decide, by decide, fun n2 H6 n20 n21 k6 hh6 => ?_⟩
        obtain ⟨c2, e2, hs2⟩ := sign_at n20 n21
        refine ⟨signs, n2, c2, rfl, rfl, Nat.le_trans (show signs.length ≤ 37 by decide +kernel) (by decide), e2, y, _, rfl, rfl, Nat.le_trans (show y.length + 1 ≤ 100 by omega) (by decide), ?_⟩
        exact ⟨y ++ ⟨#[c2]⟩, _, rfl, sok_app sy hs2, by rw [len_app]; show y.length + 1 ≤ _; omega, ky.trans k6, hh6⟩
      · rintro σ' H4 ⟨y, v3, rfl, sy, ly, ky, hy⟩
        exact ⟨y, v3, rfl, sy, by omega, ky, hy⟩
    rintro σ' H4 ⟨y, v3, rfl, sy, ly, ky, hy⟩
    have fin : ∀ (z : Str) (H5 : Hp), Same H4 H5 → sok z → z.length ≤ 1 → ∃ i j, V.str y = .str i ∧ V.str z = .str j ∧ i.length + j.length ≤ sizeLine ∧ Q (.str (i ++ j)) H5 := fun z H5 s5 sz lz =>
      ⟨y, z, rfl, rfl, Nat.le_trans (show y.length + z.length ≤ 100 by omega) (by decide), q _ _ (sok_app sy sz) (by rw [len_app]; omega) (ky.trans (hy.kh s5)) (hy.same s5)⟩
    refine ⟨_, rfl, rfl, fun H5 s5 => ite2 (fun _ => ⟨_, rfl, fin "-" H5 s5 (by decide +kernel) (by decide +kernel)⟩) (fun _ => ?_)⟩
    refine ⟨_, rfl, rfl, fun H6 s6 => ite2 (fun _ => ⟨_, rfl, fin "0" H6 (s5.trans s6) (by decide +kernel) (by decide +kernel)⟩) (fun _ => ⟨_, rfl, q y H6 sy (by omega) (ky.trans (hy.kh (s5.trans s6))) (hy.same (s5.trans s6))⟩)⟩
end
end K51

namespace K51
open PySem L2 Cm
/-- where the classes lie -/
structure Adr where
  BadText : Addr
  BadName : Addr
  BadAsks : Addr
  BadTurnName : Addr
  NoTurn : Addr
  BadCode : Addr
  NoKeep : Addr
  BadListing : Addr
  BadJumps : Addr
  BadKind : Addr
  Unfit : Addr
  BadStanding : Addr
  NoCall : Addr
  BadPlan : Addr
  BadMost : Addr
  BadCount : Addr
  BadHandover : Addr
  Ahead : Addr
  BadKept : Addr
  BadDeed : Addr
  RestsError : Addr
structure Ms (P : Program) (w : World) (K : PySem.W.Frag) (mg : Str → Option Value) (base : Heap) (A : Adr) : Prop where
  BadText : Mk P w K mg base A.BadText "BadText" ["place", "what"]
  BadName : Mk P w K mg base A.BadName "BadName" ["what", "name"]
  BadAsks : Mk P w K mg base A.BadAsks "BadAsks" ["index"]
  BadTurnName : Mk P w K mg base A.BadTurnName "BadTurnName" ["name"]
  NoTurn : Mk P w K mg base A.NoTurn "NoTurn" ["path", "name"]
  BadCode : Mk P w K mg base A.BadCode "BadCode" ["fault"]
  NoKeep : Mk P w K mg base A.NoKeep "NoKeep" ["path"]
  BadListing : Mk P w K mg base A.BadListing "BadListing" ["line"]
  BadJumps : Mk P w K mg base A.BadJumps "BadJumps" ["fault"]
  BadKind : Mk P w K mg base A.BadKind "BadKind" ["kind"]
  Unfit : Mk P w K mg base A.Unfit "Unfit" ["word", "birth"]
  BadStanding : Mk P w K mg base A.BadStanding "BadStanding" ["place", "what"]
  NoCall : Mk P w K mg base A.NoCall "NoCall" ["outcome"]
  BadPlan : Mk P w K mg base A.BadPlan "BadPlan" ["place"]
  BadMost : Mk P w K mg base A.BadMost "BadMost" ["most"]
  BadCount : Mk P w K mg base A.BadCount "BadCount" ["many"]
  BadHandover : Mk P w K mg base A.BadHandover "BadHandover" ["index"]
  Ahead : Mk P w K mg base A.Ahead "Ahead" ["shown"]
  BadKept : Mk P w K mg base A.BadKept "BadKept" ["calls"]
  BadDeed : Mk P w K mg base A.BadDeed "BadDeed" ["index"]
/-- made errors -/
def Fx (H : Hp) (es : List (Addr × Addr × List (Str × V))) : Prop := ∀ (i : Nat) (p : Addr × Addr × List (Str × V)), es[i]? = some p → ExV H p.1 p.2.1 p.2.2
theorem Fx.same {H H' : Hp} {es : List (Addr × Addr × List (Str × V))} (x : Fx H es) (s : Same H H') : Fx H' es := fun i p e => (x i p e).same s
theorem Fx.nil {H : Hp} : Fx H [] := fun i p e => by simp at e
theorem Fx.snoc {H : Hp} {es : List (Addr × Addr × List (Str × V))} (x : Fx H es) {a C : Addr} {fs : List (Str × V)} (h : ExV H a C fs) : Fx H (es ++ [(a, C, fs)]) := fun i p e => by
  by_cases hi : i < es.length
  · rw [List.getElem?_append_left hi] at e
    exact x i p e
  · rw [List.getElem?_append_right (by omega)] at e
    have : i - es.length = 0 := by
      have := (List.getElem?_eq_some_iff.mp e).1
      simp at this
      omega
    rw [this] at e
    cases e
    exact h
/-- a row: an error, what it told, what is due -/
def Row (K : PySem.W.Frag) (H : Hp) (v : V) (C : Addr) : Prop := ∃ (r e tl dl : Addr) (fs : List (Str × V)) (d : PyData), v = .ref r ∧ SqT K H r [.ref e, .ref tl, .ref dl] ∧ ExV H e C fs ∧ Dp K H (.ref tl) d ∧ Dp K H (.ref dl) d ∧ SeqAt.shaped d = true
theorem Row.same {K : PySem.W.Frag} {H H' : Hp} {v : V} {C : Addr} (x : Row K H v C) (s : Same H H') : Row K H' v C := by
  obtain ⟨r, e, tl, dl, fs, d, rfl, h1, h2, h3, h4, h5⟩ := x
  exact ⟨r, e, tl, dl, fs, d, rfl, sqt_same s h1, h2.same s, dp_same s _ _ h3, dp_same s _ _ h4, h5⟩
structure Rows (K : PySem.W.Frag) (H : Hp) (vs : List V) (Cs : List Addr) : Prop where
  len : vs.length = Cs.length
  at_ : ∀ (i : Nat) (v : V) (C : Addr), vs[i]? = some v → Cs[i]? = some C → Row K H v C
theorem Rows.same {K : PySem.W.Frag} {H H' : Hp} {vs : List V} {Cs : List Addr} (x : Rows K H vs Cs) (s : Same H H') : Rows K H' vs Cs := ⟨x.len, fun i v C e1 e2 => (x.at_ i v C e1 e2).same s⟩
theorem Rows.nil {K : PySem.W.Frag} {H : Hp} : Rows K H [] [] := ⟨rfl, fun i v C e => by simp at e⟩
theorem Rows.app {K : PySem.W.Frag} {H : Hp} {us vs : List V} {S R : List Addr} (a : Rows K H us S) (b : Rows K H vs R) : Rows K H (us ++ vs) (S ++ R) := by
  refine ⟨by rw [List.length_append, List.length_append, a.len, b.len], fun i u p e1 e2 => ?_⟩
  by_cases h : i < us.length
  · rw [List.getElem?_append_left h] at e1
    rw [List.getElem?_append_left (by rw [← a.len]; exact h)] at e2
    exact a.at_ i u p e1 e2
  · rw [List.getElem?_append_right (by omega)] at e1
    rw [List.getElem?_append_right (by rw [← a.len]; omega), ← a.len] at e2
    exact b.at_ _ u p e1 e2
theorem Rows.one {K : PySem.W.Frag} {H : Hp} {v : V} {C : Addr} (x : Row K H v C) : Rows K H [v] [C] := ⟨rfl, fun i v' C' e1 e2 => by
  cases i with
  | zero => cases e1; cases e2; exact x
  | succ i => simp at e1⟩
theorem lay_list {ds : List PyData} (h : ∀ d ∈ ds, Lay 1 d) : SeqAt.shaped (.list ds) = true := (Lay.lst h).sh (by decide)
/-- the rows of some classes -/
def spRows (K : PySem.W.Frag) (Cs : List Addr) : Sp := fun vs H Q _ => ∃ (at_ : Int) (word nm : Str) (pa : Addr) (path : List Int), vs = [.int at_, .str word, .str nm, .ref pa] ∧ sok word ∧ sok nm ∧ SqT K H pa (path.map V.int) ∧
  ∀ (L : Addr) (us : List V) (H' : Hp), Same H H' → H' L = some (.lst us) → Rows K H' us Cs → Q (.ref L) H'
section
variable {P : Program} {w : World} {K : PySem.W.Frag} {mg : Str → Option Value} {base : Heap} {A : Adr}
abbrev s_l_first : Stmt := top 27
abbrev N_l_first : List Str := ["_law_at", "_law_word", "_law_name_here", "_law_path", "_law_a", "_law_b", "_law_c", "_law_d", "_law_e", "_law_f", "_law_g", "_law_rows"]
theorem sc_l_first : FnScope N_l_first ["_law_at", "_law_word", "_law_name_here", "_law_path"] (defScope s_l_first) := ⟨rfl, rfl, rfl, by decide +kernel, rfl, by decide +kernel, by decide +kernel⟩

theorem ok_first (M : Ms P w K mg base A) (D : At K mg "_law_first" s_l_first ["_law_at", "_law_word", "_law_name_here", "_law_path"]) : Cl P w K mg base 3 "_law_first" (spRows K [A.BadText, A.BadName, A.BadAsks, A.BadTurnName, A.NoTurn, A.BadCode, A.NoKeep]) := by
  refine cl_of D sc_l_first (fun vs H Q E h => ?_) fun f cdv A' outer s H vs Q E hr h => ?_
  · obtain ⟨at_, word, nm, pa, path, rfl, _⟩ := h
    rfl
  · obtain ⟨at_, word, nm, pa, path, rfl, hw, hnm, hp, q⟩ := h
    refine ⟨_, (pss_cons (ps_set (i := 4) sc_l_first.nd rfl (Or.inl rfl) (pe_mk M.BadText hr (by decide) (by decide) (by rfl) (pa_cons (pv 0) (pa_cons (pv 1) pa_nil))))
      (pss_cons (ps_set (i := 5) sc_l_first.nd rfl (Or.inl rfl) (pe_mk M.BadName hr (by decide) (by decide) (by rfl) (pa_cons (pv 1) (pa_cons (pv 2) pa_nil))))
      (pss_cons (ps_set (i := 6) sc_l_first.nd rfl (Or.inl rfl) (pe_mk M.BadAsks hr (by decide) (by decide) (by rfl) (pa_cons (pv 0) pa_nil)))
      (pss_cons (ps_set (i := 7) sc_l_first.nd rfl (Or.inl rfl) (pe_mk M.BadTurnName hr (by decide) (by decide) (by rfl) (pa_cons (pv 2) pa_nil)))
      (pss_cons (ps_set (i := 8) sc_l_first.nd rfl (Or.inl rfl) (pe_mk M.NoTurn hr (by decide) (by decide) (by rfl) (pa_cons (pv 3) (pa_cons (pv 2) pa_nil))))
      (pss_cons (ps_set (i := 9) sc_l_first.nd rfl (Or.inl rfl) (pe_mk M.BadCode hr (by decide) (by decide) (by rfl) (pa_cons (pe_tup (pa_cons (pv 1) (pa_cons (pv 0) pa_nil))) pa_nil)))
      (pss_cons (ps_set (i := 10) sc_l_first.nd rfl (Or.inl rfl) (pe_mk M.NoKeep hr (by decide) (by decide) (by rfl) (pa_cons (pv 3) pa_nil)))
      (pss_cons (ps_set (i := 11) sc_l_first.nd rfl (Or.inl rfl) (pe_lst (pa_cons (pe_tup (pa_cons (pv 4) (pa_cons (pe_lst (pa_cons (pe_fldE (pv 4)) (pa_cons (pe_fldE (pv 4)) pa_nil))) (pa_cons (pe_lst (pa_cons (pv 0) (pa_cons (pv 1) pa_nil))) pa_nil)))) (pa_cons (pe_tup (pa_cons (pv 5) (pa_cons (pe_lst (pa_cons (pe_fldE (pv 5)) (pa_cons (pe_fldE (pv 5)) pa_nil))) (pa_cons (pe_lst (pa_cons (pv 1) (pa_cons (pv 2) pa_nil))) pa_nil)))) (pa_cons (pe_tup (pa_cons (pv 6) (pa_cons (pe_lst (pa_cons (pe_fldE (pv 6)) pa_nil)) (pa_cons (pe_lst (pa_cons (pv 0) pa_nil)) pa_nil)))) pa_nil)))))
      (pss_cons (ps_set (i := 11) sc_l_first.nd rfl (Or.inl rfl) (pe_op op_cat (pv 11) (pe_lst (pa_cons (pe_tup (pa_cons (pv 7) (pa_cons (pe_lst (pa_cons (pe_fldE (pv 7)) pa_nil)) (pa_cons (pe_lst (pa_cons (pv 2) pa_nil)) pa_nil)))) (pa_cons (pe_tup (pa_cons (pv 8) (pa_cons (pe_lst (pa_cons (pe_fldE (pv 8)) (pa_cons (pe_fldE (pv 8)) pa_nil))) (pa_cons (pe_lst (pa_cons (pv 3) (pa_cons (pv 2) pa_nil))) pa_nil)))) (pa_cons (pe_tup (pa_cons (pv 9) (pa_cons (pe_lst (pa_cons (pe_fldE (pv 9)) pa_nil)) (pa_cons (pe_lst (pa_cons (pe_tup (pa_cons (pv 1) (pa_cons (pv 0) pa_nil))) pa_nil)) pa_nil)))) pa_nil))))))
      (pss_one (ps_ret (pe_op op_cat (pv 11) (pe_lst (pa_cons (pe_tup (pa_cons (pv 10) (pa_cons (pe_lst (pa_cons (pe_fldE (pv 10)) pa_nil)) (pa_cons (pe_lst (pa_cons (pv 3) pa_nil)) pa_nil)))) pa_nil)))))))))))))), ?_⟩
    have S : Same H H := Same.refl H
    have fx : Fx H [] := Fx.nil
    refine ⟨_, rfl, _, rfl, rfl, fun e0 E0 se0 x0 => ?_⟩
    replace S := S.trans se0
    replace fx := fx.same se0
    replace hp := sqt_same se0 hp
    replace fx := fx.snoc x0
    refine ⟨_, rfl, _, rfl, rfl, fun e1 E1 se1 x1 => ?_⟩
    replace S := S.trans se1
    replace fx := fx.same se1
    replace hp := sqt_same se1 hp
    replace fx := fx.snoc x1
    refine ⟨_, rfl, rfl, fun e2 E2 se2 x2 => ?_⟩
    replace S := S.trans se2
    replace fx := fx.same se2
    replace hp := sqt_same se2 hp
    replace fx := fx.snoc x2
    refine ⟨_, rfl, rfl, fun e3 E3 se3 x3 => ?_⟩
    replace S := S.trans se3
    replace fx := fx.same se3
    replace hp := sqt_same se3 hp
    replace fx := fx.snoc x3
    refine ⟨_, rfl, _, rfl, rfl, fun e4 E4 se4 x4 => ?_⟩
    replace S := S.trans se4
    replace fx := fx.same se4
    replace hp := sqt_same se4 hp
    replace fx := fx.snoc x4
    refine ⟨_, rfl, _, rfl, by show 2 ≤ sizeLine; decide, fun tf5 htf5 => ?_⟩
    have s1 := same_new (o := .tup [.str word, .int at_]) htf5
    have a1 : (upd E4 tf5 (.tup [.str word, .int at_])) tf5 = some (.tup [.str word, .int at_]) := upd_same
    generalize upd E4 tf5 (.tup [.str word, .int at_]) = G1 at *
    replace S := S.trans s1
    replace fx := fx.same s1
    replace hp := sqt_same s1 hp
    have df5 : Dp K G1 (.ref tf5) (.tuple [.str word, .int at_]) := .tup (.inl (.inl a1)) (.cons (.str _) (.cons (.int _) .nil))
    refine ⟨rfl, fun e5 E5 se5 x5 => ?_⟩
    replace S := S.trans se5
    replace fx := fx.same se5
    replace hp := sqt_same se5 hp
    replace df5 := dp_same se5 _ _ df5
    replace fx := fx.snoc x5
    refine ⟨_, rfl, rfl, fun e6 E6 se6 x6 => ?_⟩
    replace S := S.trans se6
    replace fx := fx.same se6
    replace hp := sqt_same se6 hp
    replace df5 := dp_same se6 _ _ df5
    replace fx := fx.snoc x6
    have rw0 : Rows K E6 [] [] := Rows.nil
    refine ⟨_, rfl, ?_⟩
    refine ⟨_, rfl, e0, A.BadText, _, _, rfl, M.BadText.xf, M.BadText.no _ (by simp), fx 0 _ rfl, rfl, ?_⟩
    refine ⟨_, rfl, e0, A.BadText, _, _, rfl, M.BadText.xf, M.BadText.no _ (by simp), fx 0 _ rfl, rfl, ?_⟩
    refine ⟨by show 2 ≤ sizeLine; decide, fun tl0 htl0 => ?_⟩
    have s2 := same_new (o := .lst [.int at_, .str word]) htl0
    have a2 : (upd E6 tl0 (.lst [.int at_, .str word])) tl0 = some (.lst [.int at_, .str word]) := upd_same
    generalize upd E6 tl0 (.lst [.int at_, .str word]) = G2 at *
    replace S := S.trans s2
    replace fx := fx.same s2
    replace hp := sqt_same s2 hp
    replace df5 := dp_same s2 _ _ df5
    replace rw0 := rw0.same s2
    have dtl : Dp K G2 (.ref tl0) (.list [.int at_, .str word]) := .lst (.inl (.inl a2)) (.cons (.int _) (.cons (.str _) .nil))
    refine ⟨_, rfl, _, rfl, by show 2 ≤ sizeLine; decide, fun dl0 hdl0 => ?_⟩
    have s3 := same_new (o := .lst [.int at_, .str word]) hdl0
    have a3 : (upd G2 dl0 (.lst [.int at_, .str word])) dl0 = some (.lst [.int at_, .str word]) := upd_same
    generalize upd G2 dl0 (.lst [.int at_, .str word]) = G3 at *
    replace S := S.trans s3
    replace fx := fx.same s3
    replace hp := sqt_same s3 hp
    replace df5 := dp_same s3 _ _ df5
    replace rw0 := rw0.same s3
    replace dtl := dp_same s3 _ _ dtl
    have ddl : Dp K G3 (.ref dl0) (.list [.int at_, .str word]) := .lst (.inl (.inl a3)) (.cons (.int _) (.cons (.str _) .nil))
    refine ⟨by show 3 ≤ sizeLine; decide, fun r0 hr0 => ?_⟩
    have s4 := same_new (o := .tup [.ref e0, .ref tl0, .ref dl0]) hr0
    have a4 : (upd G3 r0 (.tup [.ref e0, .ref tl0, .ref dl0])) r0 = some (.tup [.ref e0, .ref tl0, .ref dl0]) := upd_same
    generalize upd G3 r0 (.tup [.ref e0, .ref tl0, .ref dl0]) = G4 at *
    replace S := S.trans s4
    replace fx := fx.same s4
    replace hp := sqt_same s4 hp
    replace df5 := dp_same s4 _ _ df5
    replace rw0 := rw0.same s4
    replace dtl := dp_same s4 _ _ dtl
    replace ddl := dp_same s4 _ _ ddl
    replace rw0 := rw0.app (Rows.one (C := A.BadText) ⟨r0, e0, tl0, dl0, _, .list [.int at_, .str word], rfl, .inl (.inl a4), fx 0 _ rfl, dtl, ddl, lay_list (by intro d m; simp only [List.mem_cons, List.not_mem_nil, or_false] at m; rcases m with rfl | rfl; exact (.int _ _); exact (.str hw _))⟩)
    clear dtl ddl
    refine ⟨_, rfl, ?_⟩
    refine ⟨_, rfl, e1, A.BadName, _, _, rfl, M.BadName.xf, M.BadName.no _ (by simp), fx 1 _ rfl, rfl, ?_⟩
    refine ⟨_, rfl, e1, A.BadName, _, _, rfl, M.BadName.xf, M.BadName.no _ (by simp), fx 1 _ rfl, rfl, ?_⟩
    refine ⟨by show 2 ≤ sizeLine; decide, fun tl1 htl1 => ?_⟩
    have s5 := same_new (o := .lst [.str word, .str nm]) htl1
    have a5 : (upd G4 tl1 (.lst [.str word, .str nm])) tl1 = some (.lst [.str word, .str nm]) := upd_same
    generalize upd G4 tl1 (.lst [.str word, .str nm]) = G5 at *
    replace S := S.trans s5
    replace fx := fx.same s5
    replace hp := sqt_same s5 hp
    replace df5 := dp_same s5 _ _ df5
    replace rw0 := rw0.same s5
    have dtl : Dp K G5 (.ref tl1) (.list [.str word, .str nm]) := .lst (.inl (.inl a5)) (.cons (.str _) (.cons (.str _) .nil))
    refine ⟨_, rfl, _, rfl, by show 2 ≤ sizeLine; decide, fun dl1 hdl1 => ?_⟩
    have s6 := same_new (o := .lst [.str word, .str nm]) hdl1
    have a6 : (upd G5 dl1 (.lst [.str word, .str nm])) dl1 = some (.lst [.str word, .str nm]) := upd_same
    generalize upd G5 dl1 (.lst [.str word, .str nm]) = G6 at *
    replace S := S.trans s6
    replace fx := fx.same s6
    replace hp := sqt_same s6 hp
    replace df5 := dp_same s6 _ _ df5
    replace rw0 := rw0.same s6
    replace dtl := dp_same s6 _ _ dtl
    have ddl : Dp K G6 (.ref dl1) (.list [.str word, .str nm]) := .lst (.inl (.inl a6)) (.cons (.str _) (.cons (.str _) .nil))
    refine ⟨by show 3 ≤ sizeLine; decide, fun r1 hr1 => ?_⟩
    have s7 := same_new (o := .tup [.ref e1, .ref tl1, .ref dl1]) hr1
    have a7 : (upd G6 r1 (.tup [.ref e1, .ref tl1, .ref dl1])) r1 = some (.tup [.ref e1, .ref tl1, .ref dl1]) := upd_same
    generalize upd G6 r1 (.tup [.ref e1, .ref tl1, .ref dl1]) = G7 at *
    replace S := S.trans s7
    replace fx := fx.same s7
    replace hp := sqt_same s7 hp
    replace df5 := dp_same s7 _ _ df5
    replace rw0 := rw0.same s7
    replace dtl := dp_same s7 _ _ dtl
    replace ddl := dp_same s7 _ _ ddl
    replace rw0 := rw0.app (Rows.one (C := A.BadName) ⟨r1, e1, tl1, dl1, _, .list [.str word, .str nm], rfl, .inl (.inl a7), fx 1 _ rfl, dtl, ddl, lay_list (by intro d m; simp only [List.mem_cons, List.not_mem_nil, or_false] at m; rcases m with rfl | rfl; exact (.str hw _); exact (.str hnm _))⟩)
    clear dtl ddl
    refine ⟨_, rfl, ?_⟩
    refine ⟨_, rfl, e2, A.BadAsks, _, _, rfl, M.BadAsks.xf, M.BadAsks.no _ (by simp), fx 2 _ rfl, rfl, ?_⟩
    refine ⟨by show 1 ≤ sizeLine; decide, fun tl2 htl2 => ?_⟩
    have s8 := same_new (o := .lst [.int at_]) htl2
    have a8 : (upd G7 tl2 (.lst [.int at_])) tl2 = some (.lst [.int at_]) := upd_same
    generalize upd G7 tl2 (.lst [.int at_]) = G8 at *
    replace S := S.trans s8
    replace fx := fx.same s8
    replace hp := sqt_same s8 hp
    replace df5 := dp_same s8 _ _ df5
    replace rw0 := rw0.same s8
    have dtl : Dp K G8 (.ref tl2) (.list [.int at_]) := .lst (.inl (.inl a8)) (.cons (.int _) .nil)
    refine ⟨_, rfl, by show 1 ≤ sizeLine; decide, fun dl2 hdl2 => ?_⟩
    have s9 := same_new (o := .lst [.int at_]) hdl2
    have a9 : (upd G8 dl2 (.lst [.int at_])) dl2 = some (.lst [.int at_]) := upd_same
    generalize upd G8 dl2 (.lst [.int at_]) = G9 at *
    replace S := S.trans s9
    replace fx := fx.same s9
    replace hp := sqt_same s9 hp
    replace df5 := dp_same s9 _ _ df5
    replace rw0 := rw0.same s9
    replace dtl := dp_same s9 _ _ dtl
    have ddl : Dp K G9 (.ref dl2) (.list [.int at_]) := .lst (.inl (.inl a9)) (.cons (.int _) .nil)
    refine ⟨by show 3 ≤ sizeLine; decide, fun r2 hr2 => ?_⟩
    have s10 := same_new (o := .tup [.ref e2, .ref tl2, .ref dl2]) hr2
    have a10 : (upd G9 r2 (.tup [.ref e2, .ref tl2, .ref dl2])) r2 = some (.tup [.ref e2, .ref tl2, .ref dl2]) := upd_same
    generalize upd G9 r2 (.tup [.ref e2, .ref tl2, .ref dl2]) = G10 at *
    replace S := S.trans s10
    replace fx := fx.same s10
    replace hp := sqt_same s10 hp
    replace df5 := dp_same s10 _ _ df5
    replace rw0 := rw0.same s10
    replace dtl := dp_same s10 _ _ dtl
    replace ddl := dp_same s10 _ _ ddl
    replace rw0 := rw0.app (Rows.one (C := A.BadAsks) ⟨r2, e2, tl2, dl2, _, .list [.int at_], rfl, .inl (.inl a10), fx 2 _ rfl, dtl, ddl, lay_list (by intro d m; simp only [List.mem_cons, List.not_mem_nil, or_false] at m; subst m; exact (.int _ _))⟩)
    clear dtl ddl
    refine ⟨by show 3 ≤ sizeLine; decide, fun L0 hL0 => ?_⟩
    have s11 := same_new (o := .lst [V.ref r0, V.ref r1, V.ref r2]) hL0
    have a11 : (upd G10 L0 (.lst [V.ref r0, V.ref r1, V.ref r2])) L0 = some (.lst [V.ref r0, V.ref r1, V.ref r2]) := upd_same
    generalize upd G10 L0 (.lst [V.ref r0, V.ref r1, V.ref r2]) = G11 at *
    replace S := S.trans s11
    replace fx := fx.same s11
    replace hp := sqt_same s11 hp
    replace df5 := dp_same s11 _ _ df5
    replace rw0 := rw0.same s11
    have b0 := a11
    refine ⟨_, rfl, ?_⟩
    refine ⟨_, rfl, ?_⟩
    refine ⟨_, rfl, e3, A.BadTurnName, _, _, rfl, M.BadTurnName.xf, M.BadTurnName.no _ (by simp), fx 3 _ rfl, rfl, ?_⟩
    refine ⟨by show 1 ≤ sizeLine; decide, fun tl3 htl3 => ?_⟩
    have s12 := same_new (o := .lst [.str nm]) htl3
    have a12 : (upd G11 tl3 (.lst [.str nm])) tl3 = some (.lst [.str nm]) := upd_same
    generalize upd G11 tl3 (.lst [.str nm]) = G12 at *
    replace S := S.trans s12
    replace fx := fx.same s12
    replace hp := sqt_same s12 hp
    replace df5 := dp_same s12 _ _ df5
    replace rw0 := rw0.same s12
    replace b0 := s12 _ _ b0
    have dtl : Dp K G12 (.ref tl3) (.list [.str nm]) := .lst (.inl (.inl a12)) (.cons (.str _) .nil)
    refine ⟨_, rfl, by show 1 ≤ sizeLine; decide, fun dl3 hdl3 => ?_⟩
    have s13 := same_new (o := .lst [.str nm]) hdl3
    have a13 : (upd G12 dl3 (.lst [.str nm])) dl3 = some (.lst [.str nm]) := upd_same
    generalize upd G12 dl3 (.lst [.str nm]) = G13 at *
    replace S := S.trans s13
    replace fx := fx.same s13
    replace hp := sqt_same s13 hp
    replace df5 := dp_same s13 _ _ df5
    replace rw0 := rw0.same s13
    replace dtl := dp_same s13 _ _ dtl
    replace b0 := s13 _ _ b0
    have ddl : Dp K G13 (.ref dl3) (.list [.str nm]) := .lst (.inl (.inl a13)) (.cons (.str _) .nil)
    refine ⟨by show 3 ≤ sizeLine; decide, fun r3 hr3 => ?_⟩
    have s14 := same_new (o := .tup [.ref e3, .ref tl3, .ref dl3]) hr3
    have a14 : (upd G13 r3 (.tup [.ref e3, .ref tl3, .ref dl3])) r3 = some (.tup [.ref e3, .ref tl3, .ref dl3]) := upd_same
    generalize upd G13 r3 (.tup [.ref e3, .ref tl3, .ref dl3]) = G14 at *
    replace S := S.trans s14
    replace fx := fx.same s14
    replace hp := sqt_same s14 hp
    replace df5 := dp_same s14 _ _ df5
    replace rw0 := rw0.same s14
    replace dtl := dp_same s14 _ _ dtl
    replace ddl := dp_same s14 _ _ ddl
    replace b0 := s14 _ _ b0
    replace rw0 := rw0.app (Rows.one (C := A.BadTurnName) ⟨r3, e3, tl3, dl3, _, .list [.str nm], rfl, .inl (.inl a14), fx 3 _ rfl, dtl, ddl, lay_list (by intro d m; simp only [List.mem_cons, List.not_mem_nil, or_false] at m; subst m; exact (.str hnm _))⟩)
    clear dtl ddl
    refine ⟨_, rfl, ?_⟩
    refine ⟨_, rfl, e4, A.NoTurn, _, _, rfl, M.NoTurn.xf, M.NoTurn.no _ (by simp), fx 4 _ rfl, rfl, ?_⟩
    refine ⟨_, rfl, e4, A.NoTurn, _, _, rfl, M.NoTurn.xf, M.NoTurn.no _ (by simp), fx 4 _ rfl, rfl, ?_⟩
    refine ⟨by show 2 ≤ sizeLine; decide, fun tl4 htl4 => ?_⟩
    have s15 := same_new (o := .lst [.ref pa, .str nm]) htl4
    have a15 : (upd G14 tl4 (.lst [.ref pa, .str nm])) tl4 = some (.lst [.ref pa, .str nm]) := upd_same
    generalize upd G14 tl4 (.lst [.ref pa, .str nm]) = G15 at *
    replace S := S.trans s15
    replace fx := fx.same s15
    replace hp := sqt_same s15 hp
    replace df5 := dp_same s15 _ _ df5
    replace rw0 := rw0.same s15
    replace b0 := s15 _ _ b0
    have dtl : Dp K G15 (.ref tl4) (.list [pathI path, .str nm]) := .lst (.inl (.inl a15)) (.cons (dp_pathI hp) (.cons (.str _) .nil))
    refine ⟨_, rfl, _, rfl, by show 2 ≤ sizeLine; decide, fun dl4 hdl4 => ?_⟩
    have s16 := same_new (o := .lst [.ref pa, .str nm]) hdl4
    have a16 : (upd G15 dl4 (.lst [.ref pa, .str nm])) dl4 = some (.lst [.ref pa, .str nm]) := upd_same
    generalize upd G15 dl4 (.lst [.ref pa, .str nm]) = G16 at *
    replace S := S.trans s16
    replace fx := fx.same s16
    replace hp := sqt_same s16 hp
    replace df5 := dp_same s16 _ _ df5
    replace rw0 := rw0.same s16
    replace dtl := dp_same s16 _ _ dtl
    replace b0 := s16 _ _ b0
    have ddl : Dp K G16 (.ref dl4) (.list [pathI path, .str nm]) := .lst (.inl (.inl a16)) (.cons (dp_pathI hp) (.cons (.str _) .nil))
    refine ⟨by show 3 ≤ sizeLine; decide, fun r4 hr4 => ?_⟩
    have s17 := same_new (o := .tup [.ref e4, .ref tl4, .ref dl4]) hr4
    have a17 : (upd G16 r4 (.tup [.ref e4, .ref tl4, .ref dl4])) r4 = some (.tup [.ref e4, .ref tl4, .ref dl4]) := upd_same
    generalize upd G16 r4 (.tup [.ref e4, .ref tl4, .ref dl4]) = G17 at *
    replace S := S.trans s17
    replace fx := fx.same s17
    replace hp := sqt_same s17 hp
    replace df5 := dp_same s17 _ _ df5
    replace rw0 := rw0.same s17
    replace dtl := dp_same s17 _ _ dtl
    replace ddl := dp_same s17 _ _ ddl
    replace b0 := s17 _ _ b0
    replace rw0 := rw0.app (Rows.one (C := A.NoTurn) ⟨r4, e4, tl4, dl4, _, .list [pathI path, .str nm], rfl, .inl (.inl a17), fx 4 _ rfl, dtl, ddl, lay_list (by intro d m; simp only [List.mem_cons, List.not_mem_nil, or_false] at m; rcases m with rfl | rfl; exact (lay_path path); exact (.str hnm _))⟩)
    clear dtl ddl
    refine ⟨_, rfl, ?_⟩
    refine ⟨_, rfl, e5, A.BadCode, _, _, rfl, M.BadCode.xf, M.BadCode.no _ (by simp), fx 5 _ rfl, rfl, ?_⟩
    refine ⟨by show 1 ≤ sizeLine; decide, fun tl5 htl5 => ?_⟩
    have s18 := same_new (o := .lst [.ref tf5]) htl5
    have a18 : (upd G17 tl5 (.lst [.ref tf5])) tl5 = some (.lst [.ref tf5]) := upd_same
    generalize upd G17 tl5 (.lst [.ref tf5]) = G18 at *
    replace S := S.trans s18
    replace fx := fx.same s18
    replace hp := sqt_same s18 hp
    replace df5 := dp_same s18 _ _ df5
    replace rw0 := rw0.same s18
    replace b0 := s18 _ _ b0
    have dtl : Dp K G18 (.ref tl5) (.list [.tuple [.str word, .int at_]]) := .lst (.inl (.inl a18)) (.cons df5 .nil)
    refine ⟨_, rfl, _, rfl, by show 2 ≤ sizeLine; decide, fun tq5 htq5 => ?_⟩
    have s19 := same_new (o := .tup [.str word, .int at_]) htq5
    have a19 : (upd G18 tq5 (.tup [.str word, .int at_])) tq5 = some (.tup [.str word, .int at_]) := upd_same
    generalize upd G18 tq5 (.tup [.str word, .int at_]) = G19 at *
    replace S := S.trans s19
    replace fx := fx.same s19
    replace hp := sqt_same s19 hp
    replace df5 := dp_same s19 _ _ df5
    replace rw0 := rw0.same s19
    replace dtl := dp_same s19 _ _ dtl
    replace b0 := s19 _ _ b0
    have dqq : Dp K G19 (.ref tq5) (.tuple [.str word, .int at_]) := .tup (.inl (.inl a19)) (.cons (.str _) (.cons (.int _) .nil))
    refine ⟨by show 1 ≤ sizeLine; decide, fun dl5 hdl5 => ?_⟩
    have s20 := same_new (o := .lst [.ref tq5]) hdl5
    have a20 : (upd G19 dl5 (.lst [.ref tq5])) dl5 = some (.lst [.ref tq5]) := upd_same
    generalize upd G19 dl5 (.lst [.ref tq5]) = G20 at *
    replace S := S.trans s20
    replace fx := fx.same s20
    replace hp := sqt_same s20 hp
    replace df5 := dp_same s20 _ _ df5
    replace rw0 := rw0.same s20
    replace dtl := dp_same s20 _ _ dtl
    replace dqq := dp_same s20 _ _ dqq
    replace b0 := s20 _ _ b0
    have ddl : Dp K G20 (.ref dl5) (.list [.tuple [.str word, .int at_]]) := .lst (.inl (.inl a20)) (.cons dqq .nil)
    refine ⟨by show 3 ≤ sizeLine; decide, fun r5 hr5 => ?_⟩
    have s21 := same_new (o := .tup [.ref e5, .ref tl5, .ref dl5]) hr5
    have a21 : (upd G20 r5 (.tup [.ref e5, .ref tl5, .ref dl5])) r5 = some (.tup [.ref e5, .ref tl5, .ref dl5]) := upd_same
    generalize upd G20 r5 (.tup [.ref e5, .ref tl5, .ref dl5]) = G21 at *
    replace S := S.trans s21
    replace fx := fx.same s21
    replace hp := sqt_same s21 hp
    replace df5 := dp_same s21 _ _ df5
    replace rw0 := rw0.same s21
    replace dtl := dp_same s21 _ _ dtl
    replace ddl := dp_same s21 _ _ ddl
    replace b0 := s21 _ _ b0
    replace rw0 := rw0.app (Rows.one (C := A.BadCode) ⟨r5, e5, tl5, dl5, _, .list [.tuple [.str word, .int at_]], rfl, .inl (.inl a21), fx 5 _ rfl, dtl, ddl, lay_list (by intro d m; simp only [List.mem_cons, List.not_mem_nil, or_false] at m; subst m; exact (Lay.tup (n := 0) (by intro d m; simp only [List.mem_cons, List.not_mem_nil, or_false] at m; rcases m with rfl | rfl <;> first | exact .int _ _ | exact .str hw _)))⟩)
    clear dtl ddl dqq
    refine ⟨by show 3 ≤ sizeLine; decide, fun L1 hL1 => ?_⟩
    have s22 := same_new (o := .lst [V.ref r3, V.ref r4, V.ref r5]) hL1
    have a22 : (upd G21 L1 (.lst [V.ref r3, V.ref r4, V.ref r5])) L1 = some (.lst [V.ref r3, V.ref r4, V.ref r5]) := upd_same
    generalize upd G21 L1 (.lst [V.ref r3, V.ref r4, V.ref r5]) = G22 at *
    replace S := S.trans s22
    replace fx := fx.same s22
    replace hp := sqt_same s22 hp
    replace df5 := dp_same s22 _ _ df5
    replace rw0 := rw0.same s22
    replace b0 := s22 _ _ b0
    have b1 := a22
    refine ⟨L0, L1, _, _, rfl, rfl, b0, b1, by show 6 ≤ sizeLine; decide, fun M1 hM1 => ?_⟩
    have s23 := same_new (o := .lst ([V.ref r0, V.ref r1, V.ref r2] ++ [V.ref r3, V.ref r4, V.ref r5])) hM1
    have a23 : (upd G22 M1 (.lst ([V.ref r0, V.ref r1, V.ref r2] ++ [V.ref r3, V.ref r4, V.ref r5]))) M1 = some (.lst ([V.ref r0, V.ref r1, V.ref r2] ++ [V.ref r3, V.ref r4, V.ref r5])) := upd_same
    generalize upd G22 M1 (.lst ([V.ref r0, V.ref r1, V.ref r2] ++ [V.ref r3, V.ref r4, V.ref r5])) = G23 at *
    replace S := S.trans s23
    replace fx := fx.same s23
    replace hp := sqt_same s23 hp
    replace df5 := dp_same s23 _ _ df5
    replace rw0 := rw0.same s23
    replace b1 := s23 _ _ b1
    replace b0 := s23 _ _ b0
    have c1 := a23
    refine ⟨_, rfl, ?_⟩
    refine ⟨_, rfl, ?_⟩
    refine ⟨_, rfl, e6, A.NoKeep, _, _, rfl, M.NoKeep.xf, M.NoKeep.no _ (by simp), fx 6 _ rfl, rfl, ?_⟩
    refine ⟨by show 1 ≤ sizeLine; decide, fun tl6 htl6 => ?_⟩
    have s24 := same_new (o := .lst [.ref pa]) htl6
    have a24 : (upd G23 tl6 (.lst [.ref pa])) tl6 = some (.lst [.ref pa]) := upd_same
    generalize upd G23 tl6 (.lst [.ref pa]) = G24 at *
    replace S := S.trans s24
    replace fx := fx.same s24
    replace hp := sqt_same s24 hp
    replace df5 := dp_same s24 _ _ df5
    replace rw0 := rw0.same s24
    replace c1 := s24 _ _ c1
    have dtl : Dp K G24 (.ref tl6) (.list [pathI path]) := .lst (.inl (.inl a24)) (.cons (dp_pathI hp) .nil)
    refine ⟨_, rfl, by show 1 ≤ sizeLine; decide, fun dl6 hdl6 => ?_⟩
    have s25 := same_new (o := .lst [.ref pa]) hdl6
    have a25 : (upd G24 dl6 (.lst [.ref pa])) dl6 = some (.lst [.ref pa]) := upd_same
    generalize upd G24 dl6 (.lst [.ref pa]) = G25 at *
    replace S := S.trans s25
    replace fx := fx.same s25
    replace hp := sqt_same s25 hp
    replace df5 := dp_same s25 _ _ df5
    replace rw0 := rw0.same s25
    replace dtl := dp_same s25 _ _ dtl
    replace c1 := s25 _ _ c1
    have ddl : Dp K G25 (.ref dl6) (.list [pathI path]) := .lst (.inl (.inl a25)) (.cons (dp_pathI hp) .nil)
    refine ⟨by show 3 ≤ sizeLine; decide, fun r6 hr6 => ?_⟩
    have s26 := same_new (o := .tup [.ref e6, .ref tl6, .ref dl6]) hr6
    have a26 : (upd G25 r6 (.tup [.ref e6, .ref tl6, .ref dl6])) r6 = some (.tup [.ref e6, .ref tl6, .ref dl6]) := upd_same
    generalize upd G25 r6 (.tup [.ref e6, .ref tl6, .ref dl6]) = G26 at *
    replace S := S.trans s26
    replace fx := fx.same s26
    replace hp := sqt_same s26 hp
    replace df5 := dp_same s26 _ _ df5
    replace rw0 := rw0.same s26
    replace dtl := dp_same s26 _ _ dtl
    replace ddl := dp_same s26 _ _ ddl
    replace c1 := s26 _ _ c1
    replace rw0 := rw0.app (Rows.one (C := A.NoKeep) ⟨r6, e6, tl6, dl6, _, .list [pathI path], rfl, .inl (.inl a26), fx 6 _ rfl, dtl, ddl, lay_list (by intro d m; simp only [List.mem_cons, List.not_mem_nil, or_false] at m; subst m; exact (lay_path path))⟩)
    clear dtl ddl
    refine ⟨by show 1 ≤ sizeLine; decide, fun L2 hL2 => ?_⟩
    have s27 := same_new (o := .lst [V.ref r6]) hL2
    have a27 : (upd G26 L2 (.lst [V.ref r6])) L2 = some (.lst [V.ref r6]) := upd_same
    generalize upd G26 L2 (.lst [V.ref r6]) = G27 at *
    replace S := S.trans s27
    replace fx := fx.same s27
    replace hp := sqt_same s27 hp
    replace df5 := dp_same s27 _ _ df5
    replace rw0 := rw0.same s27
    replace c1 := s27 _ _ c1
    have b2 := a27
    refine ⟨M1, L2, _, _, rfl, rfl, c1, b2, by show 7 ≤ sizeLine; decide, fun M2 hM2 => ?_⟩
    have s28 := same_new (o := .lst (([V.ref r0, V.ref r1, V.ref r2] ++ [V.ref r3, V.ref r4, V.ref r5]) ++ [V.ref r6])) hM2
    have a28 : (upd G27 M2 (.lst (([V.ref r0, V.ref r1, V.ref r2] ++ [V.ref r3, V.ref r4, V.ref r5]) ++ [V.ref r6]))) M2 = some (.lst (([V.ref r0, V.ref r1, V.ref r2] ++ [V.ref r3, V.ref r4, V.ref r5]) ++ [V.ref r6])) := upd_same
    generalize upd G27 M2 (.lst (([V.ref r0, V.ref r1, V.ref r2] ++ [V.ref r3, V.ref r4, V.ref r5]) ++ [V.ref r6])) = G28 at *
    replace S := S.trans s28
    replace fx := fx.same s28
    replace hp := sqt_same s28 hp
    replace df5 := dp_same s28 _ _ df5
    replace rw0 := rw0.same s28
    replace b2 := s28 _ _ b2
    replace c1 := s28 _ _ c1
    have c2 := a28
    exact q M2 _ _ S c2 rw0
abbrev s_l_second : Stmt := top 28
abbrev N_l_second : List Str := ["_law_at", "_law_word", "_law_name_here", "_law_path", "_law_a", "_law_b", "_law_c", "_law_d", "_law_e", "_law_f", "_law_rows"]
theorem sc_l_second : FnScope N_l_second ["_law_at", "_law_word", "_law_name_here", "_law_path"] (defScope s_l_second) := ⟨rfl, rfl, rfl, by decide +kernel, rfl, by decide +kernel, by decide +kernel⟩

theorem ok_second (M : Ms P w K mg base A) (D : At K mg "_law_second" s_l_second ["_law_at", "_law_word", "_law_name_here", "_law_path"]) : Cl P w K mg base 3 "_law_second" (spRows K [A.BadListing, A.BadJumps, A.BadKind, A.Unfit, A.BadStanding, A.NoCall]) := by
  refine cl_of D sc_l_second (fun vs H Q E h => ?_) fun f cdv A' outer s H vs Q E hr h => ?_
  · obtain ⟨at_, word, nm, pa, path, rfl, _⟩ := h
    rfl
  · obtain ⟨at_, word, nm, pa, path, rfl, hw, hnm, hp, q⟩ := h
    refine ⟨_, (pss_cons (ps_set (i := 4) sc_l_second.nd rfl (Or.inl rfl) (pe_mk M.BadListing hr (by decide) (by decide) (by rfl) (pa_cons (pv 0) pa_nil)))
      (pss_cons (ps_set (i := 5) sc_l_second.nd rfl (Or.inl rfl) (pe_mk M.BadJumps hr (by decide) (by decide) (by rfl) (pa_cons (pe_tup (pa_cons (pv 1) (pa_cons (pv 0) pa_nil))) pa_nil)))
      (pss_cons (ps_set (i := 6) sc_l_second.nd rfl (Or.inl rfl) (pe_mk M.BadKind hr (by decide) (by decide) (by rfl) (pa_cons (pv 2) pa_nil)))
      (pss_cons (ps_set (i := 7) sc_l_second.nd rfl (Or.inl rfl) (pe_mk M.Unfit hr (by decide) (by decide) (by rfl) (pa_cons (pv 1) (pa_cons (pv 0) pa_nil))))
      (pss_cons (ps_set (i := 8) sc_l_second.nd rfl (Or.inl rfl) (pe_mk M.BadStanding hr (by decide) (by decide) (by rfl) (pa_cons (pv 0) (pa_cons (pv 1) pa_nil))))
      (pss_cons (ps_set (i := 9) sc_l_second.nd rfl (Or.inl rfl) (pe_mk M.NoCall hr (by decide) (by decide) (by rfl) (pa_cons (pe_tup (pa_cons (pv 1) pa_nil)) pa_nil)))
      (pss_cons (ps_set (i := 10) sc_l_second.nd rfl (Or.inl rfl) (pe_lst (pa_cons (pe_tup (pa_cons (pv 4) (pa_cons (pe_lst (pa_cons (pe_fldE (pv 4)) pa_nil)) (pa_cons (pe_lst (pa_cons (pv 0) pa_nil)) pa_nil)))) (pa_cons (pe_tup (pa_cons (pv 5) (pa_cons (pe_lst (pa_cons (pe_fldE (pv 5)) pa_nil)) (pa_cons (pe_lst (pa_cons (pe_tup (pa_cons (pv 1) (pa_cons (pv 0) pa_nil))) pa_nil)) pa_nil)))) (pa_cons (pe_tup (pa_cons (pv 6) (pa_cons (pe_lst (pa_cons (pe_fldE (pv 6)) pa_nil)) (pa_cons (pe_lst (pa_cons (pv 2) pa_nil)) pa_nil)))) (pa_cons (pe_tup (pa_cons (pv 7) (pa_cons (pe_lst (pa_cons (pe_fldE (pv 7)) (pa_cons (pe_fldE (pv 7)) pa_nil))) (pa_cons (pe_lst (pa_cons (pv 1) (pa_cons (pv 0) pa_nil))) pa_nil)))) pa_nil))))))
      (pss_one (ps_ret (pe_op op_cat (pv 10) (pe_lst (pa_cons (pe_tup (pa_cons (pv 8) (pa_cons (pe_lst (pa_cons (pe_fldE (pv 8)) (pa_cons (pe_fldE (pv 8)) pa_nil))) (pa_cons (pe_lst (pa_cons (pv 0) (pa_cons (pv 1) pa_nil))) pa_nil)))) (pa_cons (pe_tup (pa_cons (pv 9) (pa_cons (pe_lst (pa_cons (pe_fldE (pv 9)) pa_nil)) (pa_cons (pe_lst (pa_cons (pe_tup (pa_cons (pv 1) pa_nil)) pa_nil)) pa_nil)))) pa_nil))))))))))))), ?_⟩
    have S : Same H H := Same.refl H
    have fx : Fx H [] := Fx.nil
    refine ⟨_, rfl, rfl, fun e0 E0 se0 x0 => ?_⟩
    replace S := S.trans se0
    replace fx := fx.same se0
    replace hp := sqt_same se0 hp
    replace fx := fx.snoc x0
    refine ⟨_, rfl, _, rfl, by show 2 ≤ sizeLine; decide, fun tf1 htf1 => ?_⟩
    have s1 := same_new (o := .tup [.str word, .int at_]) htf1
    have a1 : (upd E0 tf1 (.tup [.str word, .int at_])) tf1 = some (.tup [.str word, .int at_]) := upd_same
    generalize upd E0 tf1 (.tup [.str word, .int at_]) = G1 at *
    replace S := S.trans s1
    replace fx := fx.same s1
    replace hp := sqt_same s1 hp
    have df1 : Dp K G1 (.ref tf1) (.tuple [.str word, .int at_]) := .tup (.inl (.inl a1)) (.cons (.str _) (.cons (.int _) .nil))
    refine ⟨rfl, fun e1 E1 se1 x1 => ?_⟩
    replace S := S.trans se1
    replace fx := fx.same se1
    replace hp := sqt_same se1 hp
    replace df1 := dp_same se1 _ _ df1
    replace fx := fx.snoc x1
    refine ⟨_, rfl, rfl, fun e2 E2 se2 x2 => ?_⟩
    replace S := S.trans se2
    replace fx := fx.same se2
    replace hp := sqt_same se2 hp
    replace df1 := dp_same se2 _ _ df1
    replace fx := fx.snoc x2
    refine ⟨_, rfl, _, rfl, rfl, fun e3 E3 se3 x3 => ?_⟩
    replace S := S.trans se3
    replace fx := fx.same se3
    replace hp := sqt_same se3 hp
    replace df1 := dp_same se3 _ _ df1
    replace fx := fx.snoc x3
    refine ⟨_, rfl, _, rfl, rfl, fun e4 E4 se4 x4 => ?_⟩
    replace S := S.trans se4
    replace fx := fx.same se4
    replace hp := sqt_same se4 hp
    replace df1 := dp_same se4 _ _ df1
    replace fx := fx.snoc x4
    refine ⟨_, rfl, by show 1 ≤ sizeLine; decide, fun tf5 htf5 => ?_⟩
    have s2 := same_new (o := .tup [.str word]) htf5
    have a2 : (upd E4 tf5 (.tup [.str word])) tf5 = some (.tup [.str word]) := upd_same
    generalize upd E4 tf5 (.tup [.str word]) = G2 at *
    replace S := S.trans s2
    replace fx := fx.same s2
    replace hp := sqt_same s2 hp
    replace df1 := dp_same s2 _ _ df1
    have df5 : Dp K G2 (.ref tf5) (.tuple [.str word]) := .tup (.inl (.inl a2)) (.cons (.str _) .nil)
    refine ⟨rfl, fun e5 E5 se5 x5 => ?_⟩
    replace S := S.trans se5
    replace fx := fx.same se5
    replace hp := sqt_same se5 hp
    replace df1 := dp_same se5 _ _ df1
    replace df5 := dp_same se5 _ _ df5
    replace fx := fx.snoc x5
    have rw0 : Rows K E5 [] [] := Rows.nil
    refine ⟨_, rfl, ?_⟩
    refine ⟨_, rfl, e0, A.BadListing, _, _, rfl, M.BadListing.xf, M.BadListing.no _ (by simp), fx 0 _ rfl, rfl, ?_⟩
    refine ⟨by show 1 ≤ sizeLine; decide, fun tl0 htl0 => ?_⟩
    have s3 := same_new (o := .lst [.int at_]) htl0
    have a3 : (upd E5 tl0 (.lst [.int at_])) tl0 = some (.lst [.int at_]) := upd_same
    generalize upd E5 tl0 (.lst [.int at_]) = G3 at *
    replace S := S.trans s3
    replace fx := fx.same s3
    replace hp := sqt_same s3 hp
    replace df1 := dp_same s3 _ _ df1
    replace df5 := dp_same s3 _ _ df5
    replace rw0 := rw0.same s3
    have dtl : Dp K G3 (.ref tl0) (.list [.int at_]) := .lst (.inl (.inl a3)) (.cons (.int _) .nil)
    refine ⟨_, rfl, by show 1 ≤ sizeLine; decide, fun dl0 hdl0 => ?_⟩
    have s4 := same_new (o := .lst [.int at_]) hdl0
    have a4 : (upd G3 dl0 (.lst [.int at_])) dl0 = some (.lst [.int at_]) := upd_same
    generalize upd G3 dl0 (.lst [.int at_]) = G4 at *
    replace S := S.trans s4
    replace fx := fx.same s4
    replace hp := sqt_same s4 hp
    replace df1 := dp_same s4 _ _ df1
    replace df5 := dp_same s4 _ _ df5
    replace rw0 := rw0.same s4
    replace dtl := dp_same s4 _ _ dtl
    have ddl : Dp K G4 (.ref dl0) (.list [.int at_]) := .lst (.inl (.inl a4)) (.cons (.int _) .nil)
    refine ⟨by show 3 ≤ sizeLine; decide, fun r0 hr0 => ?_⟩
    have s5 := same_new (o := .tup [.ref e0, .ref tl0, .ref dl0]) hr0
    have a5 : (upd G4 r0 (.tup [.ref e0, .ref tl0, .ref dl0])) r0 = some (.tup [.ref e0, .ref tl0, .ref dl0]) := upd_same
    generalize upd G4 r0 (.tup [.ref e0, .ref tl0, .ref dl0]) = G5 at *
    replace S := S.trans s5
    replace fx := fx.same s5
    replace hp := sqt_same s5 hp
    replace df1 := dp_same s5 _ _ df1
    replace df5 := dp_same s5 _ _ df5
    replace rw0 := rw0.same s5
    replace dtl := dp_same s5 _ _ dtl
    replace ddl := dp_same s5 _ _ ddl
    replace rw0 := rw0.app (Rows.one (C := A.BadListing) ⟨r0, e0, tl0, dl0, _, .list [.int at_], rfl, .inl (.inl a5), fx 0 _ rfl, dtl, ddl, lay_list (by intro d m; simp only [List.mem_cons, List.not_mem_nil, or_false] at m; subst m; exact (.int _ _))⟩)
    clear dtl ddl
    refine ⟨_, rfl, ?_⟩
    refine ⟨_, rfl, e1, A.BadJumps, _, _, rfl, M.BadJumps.xf, M.BadJumps.no _ (by simp), fx 1 _ rfl, rfl, ?_⟩
    refine ⟨by show 1 ≤ sizeLine; decide, fun tl1 htl1 => ?_⟩
    have s6 := same_new (o := .lst [.ref tf1]) htl1
    have a6 : (upd G5 tl1 (.lst [.ref tf1])) tl1 = some (.lst [.ref tf1]) := upd_same
    generalize upd G5 tl1 (.lst [.ref tf1]) = G6 at *
    replace S := S.trans s6
    replace fx := fx.same s6
    replace hp := sqt_same s6 hp
    replace df1 := dp_same s6 _ _ df1
    replace df5 := dp_same s6 _ _ df5
    replace rw0 := rw0.same s6
    have dtl : Dp K G6 (.ref tl1) (.list [.tuple [.str word, .int at_]]) := .lst (.inl (.inl a6)) (.cons df1 .nil)
    refine ⟨_, rfl, _, rfl, by show 2 ≤ sizeLine; decide, fun tq1 htq1 => ?_⟩
    have s7 := same_new (o := .tup [.str word, .int at_]) htq1
    have a7 : (upd G6 tq1 (.tup [.str word, .int at_])) tq1 = some (.tup [.str word, .int at_]) := upd_same
    generalize upd G6 tq1 (.tup [.str word, .int at_]) = G7 at *
    replace S := S.trans s7
    replace fx := fx.same s7
    replace hp := sqt_same s7 hp
    replace df1 := dp_same s7 _ _ df1
    replace df5 := dp_same s7 _ _ df5
    replace rw0 := rw0.same s7
    replace dtl := dp_same s7 _ _ dtl
    have dqq : Dp K G7 (.ref tq1) (.tuple [.str word, .int at_]) := .tup (.inl (.inl a7)) (.cons (.str _) (.cons (.int _) .nil))
    refine ⟨by show 1 ≤ sizeLine; decide, fun dl1 hdl1 => ?_⟩
    have s8 := same_new (o := .lst [.ref tq1]) hdl1
    have a8 : (upd G7 dl1 (.lst [.ref tq1])) dl1 = some (.lst [.ref tq1]) := upd_same
    generalize upd G7 dl1 (.lst [.ref tq1]) = G8 at *
    replace S := S.trans s8
    replace fx := fx.same s8
    replace hp := sqt_same s8 hp
    replace df1 := dp_same s8 _ _ df1
    replace df5 := dp_same s8 _ _ df5
    replace rw0 := rw0.same s8
    replace dtl := dp_same s8 _ _ dtl
    replace dqq := dp_same s8 _ _ dqq
    have ddl : Dp K G8 (.ref dl1) (.list [.tuple [.str word, .int at_]]) := .lst (.inl (.inl a8)) (.cons dqq .nil)
    refine ⟨by show 3 ≤ sizeLine; decide, fun r1 hr1 => ?_⟩
    have s9 := same_new (o := .tup [.ref e1, .ref tl1, .ref dl1]) hr1
    have a9 : (upd G8 r1 (.tup [.ref e1, .ref tl1, .ref dl1])) r1 = some (.tup [.ref e1, .ref tl1, .ref dl1]) := upd_same
    generalize upd G8 r1 (.tup [.ref e1, .ref tl1, .ref dl1]) = G9 at *
    replace S := S.trans s9
    replace fx := fx.same s9
    replace hp := sqt_same s9 hp
    replace df1 := dp_same s9 _ _ df1
    replace df5 := dp_same s9 _ _ df5
    replace rw0 := rw0.same s9
    replace dtl := dp_same s9 _ _ dtl
    replace ddl := dp_same s9 _ _ ddl
    replace rw0 := rw0.app (Rows.one (C := A.BadJumps) ⟨r1, e1, tl1, dl1, _, .list [.tuple [.str word, .int at_]], rfl, .inl (.inl a9), fx 1 _ rfl, dtl, ddl, lay_list (by intro d m; simp only [List.mem_cons, List.not_mem_nil, or_false] at m; subst m; exact (Lay.tup (n := 0) (by intro d m; simp only [List.mem_cons, List.not_mem_nil, or_false] at m; rcases m with rfl | rfl <;> first | exact .int _ _ | exact .str hw _)))⟩)
    clear dtl ddl dqq
    refine ⟨_, rfl, ?_⟩
    refine ⟨_, rfl, e2, A.BadKind, _, _, rfl, M.BadKind.xf, M.BadKind.no _ (by simp), fx 2 _ rfl, rfl, ?_⟩
    refine ⟨by show 1 ≤ sizeLine; decide, fun tl2 htl2 => ?_⟩
    have s10 := same_new (o := .lst [.str nm]) htl2
    have a10 : (upd G9 tl2 (.lst [.str nm])) tl2 = some (.lst [.str nm]) := upd_same
    generalize upd G9 tl2 (.lst [.str nm]) = G10 at *
    replace S := S.trans s10
    replace fx := fx.same s10
    replace hp := sqt_same s10 hp
    replace df1 := dp_same s10 _ _ df1
    replace df5 := dp_same s10 _ _ df5
    replace rw0 := rw0.same s10
    have dtl : Dp K G10 (.ref tl2) (.list [.str nm]) := .lst (.inl (.inl a10)) (.cons (.str _) .nil)
    refine ⟨_, rfl, by show 1 ≤ sizeLine; decide, fun dl2 hdl2 => ?_⟩
    have s11 := same_new (o := .lst [.str nm]) hdl2
    have a11 : (upd G10 dl2 (.lst [.str nm])) dl2 = some (.lst [.str nm]) := upd_same
    generalize upd G10 dl2 (.lst [.str nm]) = G11 at *
    replace S := S.trans s11
    replace fx := fx.same s11
    replace hp := sqt_same s11 hp
    replace df1 := dp_same s11 _ _ df1
    replace df5 := dp_same s11 _ _ df5
    replace rw0 := rw0.same s11
    replace dtl := dp_same s11 _ _ dtl
    have ddl : Dp K G11 (.ref dl2) (.list [.str nm]) := .lst (.inl (.inl a11)) (.cons (.str _) .nil)
    refine ⟨by show 3 ≤ sizeLine; decide, fun r2 hr2 => ?_⟩
    have s12 := same_new (o := .tup [.ref e2, .ref tl2, .ref dl2]) hr2
    have a12 : (upd G11 r2 (.tup [.ref e2, .ref tl2, .ref dl2])) r2 = some (.tup [.ref e2, .ref tl2, .ref dl2]) := upd_same
    generalize upd G11 r2 (.tup [.ref e2, .ref tl2, .ref dl2]) = G12 at *
    replace S := S.trans s12
    replace fx := fx.same s12
    replace hp := sqt_same s12 hp
    replace df1 := dp_same s12 _ _ df1
    replace df5 := dp_same s12 _ _ df5
    replace rw0 := rw0.same s12
    replace dtl := dp_same s12 _ _ dtl
    replace ddl := dp_same s12 _ _ ddl
    replace rw0 := rw0.app (Rows.one (C := A.BadKind) ⟨r2, e2, tl2, dl2, _, .list [.str nm], rfl, .inl (.inl a12), fx 2 _ rfl, dtl, ddl, lay_list (by intro d m; simp only [List.mem_cons, List.not_mem_nil, or_false] at m; subst m; exact (.str hnm _))⟩)
    clear dtl ddl
    refine ⟨_, rfl, ?_⟩
    refine ⟨_, rfl, e3, A.Unfit, _, _, rfl, M.Unfit.xf, M.Unfit.no _ (by simp), fx 3 _ rfl, rfl, ?_⟩
    refine ⟨_, rfl, e3, A.Unfit, _, _, rfl, M.Unfit.xf, M.Unfit.no _ (by simp), fx 3 _ rfl, rfl, ?_⟩
    refine ⟨by show 2 ≤ sizeLine; decide, fun tl3 htl3 => ?_⟩
    have s13 := same_new (o := .lst [.str word, .int at_]) htl3
    have a13 : (upd G12 tl3 (.lst [.str word, .int at_])) tl3 = some (.lst [.str word, .int at_]) := upd_same
    generalize upd G12 tl3 (.lst [.str word, .int at_]) = G13 at *
    replace S := S.trans s13
    replace fx := fx.same s13
    replace hp := sqt_same s13 hp
    replace df1 := dp_same s13 _ _ df1
    replace df5 := dp_same s13 _ _ df5
    replace rw0 := rw0.same s13
    have dtl : Dp K G13 (.ref tl3) (.list [.str word, .int at_]) := .lst (.inl (.inl a13)) (.cons (.str _) (.cons (.int _) .nil))
    refine ⟨_, rfl, _, rfl, by show 2 ≤ sizeLine; decide, fun dl3 hdl3 => ?_⟩
    have s14 := same_new (o := .lst [.str word, .int at_]) hdl3
    have a14 : (upd G13 dl3 (.lst [.str word, .int at_])) dl3 = some (.lst [.str word, .int at_]) := upd_same
    generalize upd G13 dl3 (.lst [.str word, .int at_]) = G14 at *
    replace S := S.trans s14
    replace fx := fx.same s14
    replace hp := sqt_same s14 hp
    replace df1 := dp_same s14 _ _ df1
    replace df5 := dp_same s14 _ _ df5
    replace rw0 := rw0.same s14
    replace dtl := dp_same s14 _ _ dtl
    have ddl : Dp K G14 (.ref dl3) (.list [.str word, .int at_]) := .lst (.inl (.inl a14)) (.cons (.str _) (.cons (.int _) .nil))
    refine ⟨by show 3 ≤ sizeLine; decide, fun r3 hr3 => ?_⟩
    have s15 := same_new (o := .tup [.ref e3, .ref tl3, .ref dl3]) hr3
    have a15 : (upd G14 r3 (.tup [.ref e3, .ref tl3, .ref dl3])) r3 = some (.tup [.ref e3, .ref tl3, .ref dl3]) := upd_same
    generalize upd G14 r3 (.tup [.ref e3, .ref tl3, .ref dl3]) = G15 at *
    replace S := S.trans s15
    replace fx := fx.same s15
    replace hp := sqt_same s15 hp
    replace df1 := dp_same s15 _ _ df1
    replace df5 := dp_same s15 _ _ df5
    replace rw0 := rw0.same s15
    replace dtl := dp_same s15 _ _ dtl
    replace ddl := dp_same s15 _ _ ddl
    replace rw0 := rw0.app (Rows.one (C := A.Unfit) ⟨r3, e3, tl3, dl3, _, .list [.str word, .int at_], rfl, .inl (.inl a15), fx 3 _ rfl, dtl, ddl, lay_list (by intro d m; simp only [List.mem_cons, List.not_mem_nil, or_false] at m; rcases m with rfl | rfl; exact (.str hw _); exact (.int _ _))⟩)
    clear dtl ddl
    refine ⟨by show 4 ≤ sizeLine; decide, fun L0 hL0 => ?_⟩
    have s16 := same_new (o := .lst [V.ref r0, V.ref r1, V.ref r2, V.ref r3]) hL0
    have a16 : (upd G15 L0 (.lst [V.ref r0, V.ref r1, V.ref r2, V.ref r3])) L0 = some (.lst [V.ref r0, V.ref r1, V.ref r2, V.ref r3]) := upd_same
    generalize upd G15 L0 (.lst [V.ref r0, V.ref r1, V.ref r2, V.ref r3]) = G16 at *
    replace S := S.trans s16
    replace fx := fx.same s16
    replace hp := sqt_same s16 hp
    replace df1 := dp_same s16 _ _ df1
    replace df5 := dp_same s16 _ _ df5
    replace rw0 := rw0.same s16
    have b0 := a16
    refine ⟨_, rfl, ?_⟩
    refine ⟨_, rfl, ?_⟩
    refine ⟨_, rfl, e4, A.BadStanding, _, _, rfl, M.BadStanding.xf, M.BadStanding.no _ (by simp), fx 4 _ rfl, rfl, ?_⟩
    refine ⟨_, rfl, e4, A.BadStanding, _, _, rfl, M.BadStanding.xf, M.BadStanding.no _ (by simp), fx 4 _ rfl, rfl, ?_⟩
    refine ⟨by show 2 ≤ sizeLine; decide, fun tl4 htl4 => ?_⟩
    have s17 := same_new (o := .lst [.int at_, .str word]) htl4
    have a17 : (upd G16 tl4 (.lst [.int at_, .str word])) tl4 = some (.lst [.int at_, .str word]) := upd_same
    generalize upd G16 tl4 (.lst [.int at_, .str word]) = G17 at *
    replace S := S.trans s17
    replace fx := fx.same s17
    replace hp := sqt_same s17 hp
    replace df1 := dp_same s17 _ _ df1
    replace df5 := dp_same s17 _ _ df5
    replace rw0 := rw0.same s17
    replace b0 := s17 _ _ b0
    have dtl : Dp K G17 (.ref tl4) (.list [.int at_, .str word]) := .lst (.inl (.inl a17)) (.cons (.int _) (.cons (.str _) .nil))
    refine ⟨_, rfl, _, rfl, by show 2 ≤ sizeLine; decide, fun dl4 hdl4 => ?_⟩
    have s18 := same_new (o := .lst [.int at_, .str word]) hdl4
    have a18 : (upd G17 dl4 (.lst [.int at_, .str word])) dl4 = some (.lst [.int at_, .str word]) := upd_same
    generalize upd G17 dl4 (.lst [.int at_, .str word]) = G18 at *
    replace S := S.trans s18
    replace fx := fx.same s18
    replace hp := sqt_same s18 hp
    replace df1 := dp_same s18 _ _ df1
    replace df5 := dp_same s18 _ _ df5
    replace rw0 := rw0.same s18
    replace dtl := dp_same s18 _ _ dtl
    replace b0 := s18 _ _ b0
    have ddl : Dp K G18 (.ref dl4) (.list [.int at_, .str word]) := .lst (.inl (.inl a18)) (.cons (.int _) (.cons (.str _) .nil))
    refine ⟨by show 3 ≤ sizeLine; decide, fun r4 hr4 => ?_⟩
    have s19 := same_new (o := .tup [.ref e4, .ref tl4, .ref dl4]) hr4
    have a19 : (upd G18 r4 (.tup [.ref e4, .ref tl4, .ref dl4])) r4 = some (.tup [.ref e4, .ref tl4, .ref dl4]) := upd_same
    generalize upd G18 r4 (.tup [.ref e4, .ref tl4, .ref dl4]) = G19 at *
    replace S := S.trans s19
    replace fx := fx.same s19
    replace hp := sqt_same s19 hp
    replace df1 := dp_same s19 _ _ df1
    replace df5 := dp_same s19 _ _ df5
    replace rw0 := rw0.same s19
    replace dtl := dp_same s19 _ _ dtl
    replace ddl := dp_same s19 _ _ ddl
    replace b0 := s19 _ _ b0
    replace rw0 := rw0.app (Rows.one (C := A.BadStanding) ⟨r4, e4, tl4, dl4, _, .list [.int at_, .str word], rfl, .inl (.inl a19), fx 4 _ rfl, dtl, ddl, lay_list (by intro d m; simp only [List.mem_cons, List.not_mem_nil, or_false] at m; rcases m with rfl | rfl; exact (.int _ _); exact (.str hw _))⟩)
    clear dtl ddl
    refine ⟨_, rfl, ?_⟩
    refine ⟨_, rfl, e5, A.NoCall, _, _, rfl, M.NoCall.xf, M.NoCall.no _ (by simp), fx 5 _ rfl, rfl, ?_⟩
    refine ⟨by show 1 ≤ sizeLine; decide, fun tl5 htl5 => ?_⟩
    have s20 := same_new (o := .lst [.ref tf5]) htl5
    have a20 : (upd G19 tl5 (.lst [.ref tf5])) tl5 = some (.lst [.ref tf5]) := upd_same
    generalize upd G19 tl5 (.lst [.ref tf5]) = G20 at *
    replace S := S.trans s20
    replace fx := fx.same s20
    replace hp := sqt_same s20 hp
    replace df1 := dp_same s20 _ _ df1
    replace df5 := dp_same s20 _ _ df5
    replace rw0 := rw0.same s20
    replace b0 := s20 _ _ b0
    have dtl : Dp K G20 (.ref tl5) (.list [.tuple [.str word]]) := .lst (.inl (.inl a20)) (.cons df5 .nil)
    refine ⟨_, rfl, by show 1 ≤ sizeLine; decide, fun tq5 htq5 => ?_⟩
    have s21 := same_new (o := .tup [.str word]) htq5
    have a21 : (upd G20 tq5 (.tup [.str word])) tq5 = some (.tup [.str word]) := upd_same
    generalize upd G20 tq5 (.tup [.str word]) = G21 at *
    replace S := S.trans s21
    replace fx := fx.same s21
    replace hp := sqt_same s21 hp
    replace df1 := dp_same s21 _ _ df1
    replace df5 := dp_same s21 _ _ df5
    replace rw0 := rw0.same s21
    replace dtl := dp_same s21 _ _ dtl
    replace b0 := s21 _ _ b0
    have dqq : Dp K G21 (.ref tq5) (.tuple [.str word]) := .tup (.inl (.inl a21)) (.cons (.str _) .nil)
    refine ⟨by show 1 ≤ sizeLine; decide, fun dl5 hdl5 => ?_⟩
    have s22 := same_new (o := .lst [.ref tq5]) hdl5
    have a22 : (upd G21 dl5 (.lst [.ref tq5])) dl5 = some (.lst [.ref tq5]) := upd_same
    generalize upd G21 dl5 (.lst [.ref tq5]) = G22 at *
    replace S := S.trans s22
    replace fx := fx.same s22
    replace hp := sqt_same s22 hp
    replace df1 := dp_same s22 _ _ df1
    replace df5 := dp_same s22 _ _ df5
    replace rw0 := rw0.same s22
    replace dtl := dp_same s22 _ _ dtl
    replace dqq := dp_same s22 _ _ dqq
    replace b0 := s22 _ _ b0
    have ddl : Dp K G22 (.ref dl5) (.list [.tuple [.str word]]) := .lst (.inl (.inl a22)) (.cons dqq .nil)
    refine ⟨by show 3 ≤ sizeLine; decide, fun r5 hr5 => ?_⟩
    have s23 := same_new (o := .tup [.ref e5, .ref tl5, .ref dl5]) hr5
    have a23 : (upd G22 r5 (.tup [.ref e5, .ref tl5, .ref dl5])) r5 = some (.tup [.ref e5, .ref tl5, .ref dl5]) := upd_same
    generalize upd G22 r5 (.tup [.ref e5, .ref tl5, .ref dl5]) = G23 at *
    replace S := S.trans s23
    replace fx := fx.same s23
    replace hp := sqt_same s23 hp
    replace df1 := dp_same s23 _ _ df1
    replace df5 := dp_same s23 _ _ df5
    replace rw0 := rw0.same s23
    replace dtl := dp_same s23 _ _ dtl
    replace ddl := dp_same s23 _ _ ddl
    replace b0 := s23 _ _ b0
    replace rw0 := rw0.app (Rows.one (C := A.NoCall) ⟨r5, e5, tl5, dl5, _, .list [.tuple [.str word]], rfl, .inl (.inl a23), fx 5 _ rfl, dtl, ddl, lay_list (by intro d m; simp only [List.mem_cons, List.not_mem_nil, or_false] at m; subst m; exact (Lay.tup (n := 0) (by intro d m; simp only [List.mem_cons, List.not_mem_nil, or_false] at m; cases m; exact .str hw _)))⟩)
    clear dtl ddl dqq
    refine ⟨by show 2 ≤ sizeLine; decide, fun L1 hL1 => ?_⟩
    have s24 := same_new (o := .lst [V.ref r4, V.ref r5]) hL1
    have a24 : (upd G23 L1 (.lst [V.ref r4, V.ref r5])) L1 = some (.lst [V.ref r4, V.ref r5]) := upd_same
    generalize upd G23 L1 (.lst [V.ref r4, V.ref r5]) = G24 at *
    replace S := S.trans s24
    replace fx := fx.same s24
    replace hp := sqt_same s24 hp
    replace df1 := dp_same s24 _ _ df1
    replace df5 := dp_same s24 _ _ df5
    replace rw0 := rw0.same s24
    replace b0 := s24 _ _ b0
    have b1 := a24
    refine ⟨L0, L1, _, _, rfl, rfl, b0, b1, by show 6 ≤ sizeLine; decide, fun M1 hM1 => ?_⟩
    have s25 := same_new (o := .lst ([V.ref r0, V.ref r1, V.ref r2, V.ref r3] ++ [V.ref r4, V.ref r5])) hM1
    have a25 : (upd G24 M1 (.lst ([V.ref r0, V.ref r1, V.ref r2, V.ref r3] ++ [V.ref r4, V.ref r5]))) M1 = some (.lst ([V.ref r0, V.ref r1, V.ref r2, V.ref r3] ++ [V.ref r4, V.ref r5])) := upd_same
    generalize upd G24 M1 (.lst ([V.ref r0, V.ref r1, V.ref r2, V.ref r3] ++ [V.ref r4, V.ref r5])) = G25 at *
    replace S := S.trans s25
    replace fx := fx.same s25
    replace hp := sqt_same s25 hp
    replace df1 := dp_same s25 _ _ df1
    replace df5 := dp_same s25 _ _ df5
    replace rw0 := rw0.same s25
    replace b1 := s25 _ _ b1
    replace b0 := s25 _ _ b0
    have c1 := a25
    exact q M1 _ _ S c1 rw0
abbrev s_l_third : Stmt := top 29
abbrev N_l_third : List Str := ["_law_at", "_law_word", "_law_name_here", "_law_path", "_law_a", "_law_b", "_law_c", "_law_d", "_law_e", "_law_f", "_law_g", "_law_rows"]
theorem sc_l_third : FnScope N_l_third ["_law_at", "_law_word", "_law_name_here", "_law_path"] (defScope s_l_third) := ⟨rfl, rfl, rfl, by decide +kernel, rfl, by decide +kernel, by decide +kernel⟩

theorem ok_third (M : Ms P w K mg base A) (D : At K mg "_law_third" s_l_third ["_law_at", "_law_word", "_law_name_here", "_law_path"]) : Cl P w K mg base 3 "_law_third" (spRows K [A.BadPlan, A.BadMost, A.BadCount, A.BadHandover, A.Ahead, A.BadKept, A.BadDeed]) := by
  refine cl_of D sc_l_third (fun vs H Q E h => ?_) fun f cdv A' outer s H vs Q E hr h => ?_
  · obtain ⟨at_, word, nm, pa, path, rfl, _⟩ := h
    rfl
  · obtain ⟨at_, word, nm, pa, path, rfl, hw, hnm, hp, q⟩ := h
    refine ⟨_, (pss_cons (ps_set (i := 4) sc_l_third.nd rfl (Or.inl rfl) (pe_mk M.BadPlan hr (by decide) (by decide) (by rfl) (pa_cons (pv 3) pa_nil)))
      (pss_cons (ps_set (i := 5) sc_l_third.nd rfl (Or.inl rfl) (pe_mk M.BadMost hr (by decide) (by decide) (by rfl) (pa_cons (pv 0) pa_nil)))
      (pss_cons (ps_set (i := 6) sc_l_third.nd rfl (Or.inl rfl) (pe_mk M.BadCount hr (by decide) (by decide) (by rfl) (pa_cons (pv 0) pa_nil)))
      (pss_cons (ps_set (i := 7) sc_l_third.nd rfl (Or.inl rfl) (pe_mk M.BadHandover hr (by decide) (by decide) (by rfl) (pa_cons (pv 0) pa_nil)))
      (pss_cons (ps_set (i := 8) sc_l_third.nd rfl (Or.inl rfl) (pe_mk M.Ahead hr (by decide) (by decide) (by rfl) (pa_cons (pv 0) pa_nil)))
      (pss_cons (ps_set (i := 9) sc_l_third.nd rfl (Or.inl rfl) (pe_mk M.BadKept hr (by decide) (by decide) (by rfl) (pa_cons (pv 0) pa_nil)))
      (pss_cons (ps_set (i := 10) sc_l_third.nd rfl (Or.inl rfl) (pe_mk M.BadDeed hr (by decide) (by decide) (by rfl) (pa_cons (pv 0) pa_nil)))
      (pss_cons (ps_set (i := 11) sc_l_third.nd rfl (Or.inl rfl) (pe_lst (pa_cons (pe_tup (pa_cons (pv 4) (pa_cons (pe_lst (pa_cons (pe_fldE (pv 4)) pa_nil)) (pa_cons (pe_lst (pa_cons (pv 3) pa_nil)) pa_nil)))) (pa_cons (pe_tup (pa_cons (pv 5) (pa_cons (pe_lst (pa_cons (pe_fldE (pv 5)) pa_nil)) (pa_cons (pe_lst (pa_cons (pv 0) pa_nil)) pa_nil)))) (pa_cons (pe_tup (pa_cons (pv 6) (pa_cons (pe_lst (pa_cons (pe_fldE (pv 6)) pa_nil)) (pa_cons (pe_lst (pa_cons (pv 0) pa_nil)) pa_nil)))) (pa_cons (pe_tup (pa_cons (pv 7) (pa_cons (pe_lst (pa_cons (pe_fldE (pv 7)) pa_nil)) (pa_cons (pe_lst (pa_cons (pv 0) pa_nil)) pa_nil)))) pa_nil))))))
      (pss_one (ps_ret (pe_op op_cat (pv 11) (pe_lst (pa_cons (pe_tup (pa_cons (pv 8) (pa_cons (pe_lst (pa_cons (pe_fldE (pv 8)) pa_nil)) (pa_cons (pe_lst (pa_cons (pv 0) pa_nil)) pa_nil)))) (pa_cons (pe_tup (pa_cons (pv 9) (pa_cons (pe_lst (pa_cons (pe_fldE (pv 9)) pa_nil)) (pa_cons (pe_lst (pa_cons (pv 0) pa_nil)) pa_nil)))) (pa_cons (pe_tup (pa_cons (pv 10) (pa_cons (pe_lst (pa_cons (pe_fldE (pv 10)) pa_nil)) (pa_cons (pe_lst (pa_cons (pv 0) pa_nil)) pa_nil)))) pa_nil))))))))))))))), ?_⟩
    have S : Same H H := Same.refl H
    have fx : Fx H [] := Fx.nil
    refine ⟨_, rfl, rfl, fun e0 E0 se0 x0 => ?_⟩
    replace S := S.trans se0
    replace fx := fx.same se0
    replace hp := sqt_same se0 hp
    replace fx := fx.snoc x0
    refine ⟨_, rfl, rfl, fun e1 E1 se1 x1 => ?_⟩
    replace S := S.trans se1
    replace fx := fx.same se1
    replace hp := sqt_same se1 hp
    replace fx := fx.snoc x1
    refine ⟨_, rfl, rfl, fun e2 E2 se2 x2 => ?_⟩
    replace S := S.trans se2
    replace fx := fx.same se2
    replace hp := sqt_same se2 hp
    replace fx := fx.snoc x2
    refine ⟨_, rfl, rfl, fun e3 E3 se3 x3 => ?_⟩
    replace S := S.trans se3
    replace fx := fx.same se3
    replace hp := sqt_same se3 hp
    replace fx := fx.snoc x3
    refine ⟨_, rfl, rfl, fun e4 E4 se4 x4 => ?_⟩
    replace S := S.trans se4
    replace fx := fx.same se4
    replace hp := sqt_same se4 hp
    replace fx := fx.snoc x4
    refine ⟨_, rfl, rfl, fun e5 E5 se5 x5 => ?_⟩
    replace S := S.trans se5
    replace fx := fx.same se5
    replace hp := sqt_same se5 hp
    replace fx := fx.snoc x5
    refine ⟨_, rfl, rfl, fun e6 E6 se6 x6 => ?_⟩
    replace S := S.trans se6
    replace fx := fx.same se6
    replace hp := sqt_same se6 hp
    replace fx := fx.snoc x6
    have rw0 : Rows K E6 [] [] := Rows.nil
    refine ⟨_, rfl, ?_⟩
    refine ⟨_, rfl, e0, A.BadPlan, _, _, rfl, M.BadPlan.xf, M.BadPlan.no _ (by simp), fx 0 _ rfl, rfl, ?_⟩
    refine ⟨by show 1 ≤ sizeLine; decide, fun tl0 htl0 => ?_⟩
    have s1 := same_new (o := .lst [.ref pa]) htl0
    have a1 : (upd E6 tl0 (.lst [.ref pa])) tl0 = some (.lst [.ref pa]) := upd_same
    generalize upd E6 tl0 (.lst [.ref pa]) = G1 at *
    replace S := S.trans s1
    replace fx := fx.same s1
    replace hp := sqt_same s1 hp
    replace rw0 := rw0.same s1
    have dtl : Dp K G1 (.ref tl0) (.list [pathI path]) := .lst (.inl (.inl a1)) (.cons (dp_pathI hp) .nil)
    refine ⟨_, rfl, by show 1 ≤ sizeLine; decide, fun dl0 hdl0 => ?_⟩
    have s2 := same_new (o := .lst [.ref pa]) hdl0
    have a2 : (upd G1 dl0 (.lst [.ref pa])) dl0 = some (.lst [.ref pa]) := upd_same
    generalize upd G1 dl0 (.lst [.ref pa]) = G2 at *
    replace S := S.trans s2
    replace fx := fx.same s2
    replace hp := sqt_same s2 hp
    replace rw0 := rw0.same s2
    replace dtl := dp_same s2 _ _ dtl
    have ddl : Dp K G2 (.ref dl0) (.list [pathI path]) := .lst (.inl (.inl a2)) (.cons (dp_pathI hp) .nil)
    refine ⟨by show 3 ≤ sizeLine; decide, fun r0 hr0 => ?_⟩
    have s3 := same_new (o := .tup [.ref e0, .ref tl0, .ref dl0]) hr0
    have a3 : (upd G2 r0 (.tup [.ref e0, .ref tl0, .ref dl0])) r0 = some (.tup [.ref e0, .ref tl0, .ref dl0]) := upd_same
    generalize upd G2 r0 (.tup [.ref e0, .ref tl0, .ref dl0]) = G3 at *
    replace S := S.trans s3
    replace fx := fx.same s3
    replace hp := sqt_same s3 hp
    replace rw0 := rw0.same s3
    replace dtl := dp_same s3 _ _ dtl
    replace ddl := dp_same s3 _ _ ddl
    replace rw0 := rw0.app (Rows.one (C := A.BadPlan) ⟨r0, e0, tl0, dl0, _, .list [pathI path], rfl, .inl (.inl a3), fx 0 _ rfl, dtl, ddl, lay_list (by intro d m; simp only [List.mem_cons, List.not_mem_nil, or_false] at m; subst m; exact (lay_path path))⟩)
    clear dtl ddl
    refine ⟨_, rfl, ?_⟩
    refine ⟨_, rfl, e1, A.BadMost, _, _, rfl, M.BadMost.xf, M.BadMost.no _ (by simp), fx 1 _ rfl, rfl, ?_⟩
    refine ⟨by show 1 ≤ sizeLine; decide, fun tl1 htl1 => ?_⟩
    have s4 := same_new (o := .lst [.int at_]) htl1
    have a4 : (upd G3 tl1 (.lst [.int at_])) tl1 = some (.lst [.int at_]) := upd_same
    generalize upd G3 tl1 (.lst [.int at_]) = G4 at *
    replace S := S.trans s4
    replace fx := fx.same s4
    replace hp := sqt_same s4 hp
    replace rw0 := rw0.same s4
    have dtl : Dp K G4 (.ref tl1) (.list [.int at_]) := .lst (.inl (.inl a4)) (.cons (.int _) .nil)
    refine ⟨_, rfl, by show 1 ≤ sizeLine; decide, fun dl1 hdl1 => ?_⟩
    have s5 := same_new (o := .lst [.int at_]) hdl1
    have a5 : (upd G4 dl1 (.lst [.int at_])) dl1 = some (.lst [.int at_]) := upd_same
    generalize upd G4 dl1 (.lst [.int at_]) = G5 at *
    replace S := S.trans s5
    replace fx := fx.same s5
    replace hp := sqt_same s5 hp
    replace rw0 := rw0.same s5
    replace dtl := dp_same s5 _ _ dtl
    have ddl : Dp K G5 (.ref dl1) (.list [.int at_]) := .lst (.inl (.inl a5)) (.cons (.int _) .nil)
    refine ⟨by show 3 ≤ sizeLine; decide, fun r1 hr1 => ?_⟩
    have s6 := same_new (o := .tup [.ref e1, .ref tl1, .ref dl1]) hr1
    have a6 : (upd G5 r1 (.tup [.ref e1, .ref tl1, .ref dl1])) r1 = some (.tup [.ref e1, .ref tl1, .ref dl1]) := upd_same
    generalize upd G5 r1 (.tup [.ref e1, .ref tl1, .ref dl1]) = G6 at *
    replace S := S.trans s6
    replace fx := fx.same s6
    replace hp := sqt_same s6 hp
    replace rw0 := rw0.same s6
    replace dtl := dp_same s6 _ _ dtl
    replace ddl := dp_same s6 _ _ ddl
    replace rw0 := rw0.app (Rows.one (C := A.BadMost) ⟨r1, e1, tl1, dl1, _, .list [.int at_], rfl, .inl (.inl a6), fx 1 _ rfl, dtl, ddl, lay_list (by intro d m; simp only [List.mem_cons, List.not_mem_nil, or_false] at m; subst m; exact (.int _ _))⟩)
    clear dtl ddl
    refine ⟨_, rfl, ?_⟩
    refine ⟨_, rfl, e2, A.BadCount, _, _, rfl, M.BadCount.xf, M.BadCount.no _ (by simp), fx 2 _ rfl, rfl, ?_⟩
    refine ⟨by show 1 ≤ sizeLine; decide, fun tl2 htl2 => ?_⟩
    have s7 := same_new (o := .lst [.int at_]) htl2
    have a7 : (upd G6 tl2 (.lst [.int at_])) tl2 = some (.lst [.int at_]) := upd_same
    generalize upd G6 tl2 (.lst [.int at_]) = G7 at *
    replace S := S.trans s7
    replace fx := fx.same s7
    replace hp := sqt_same s7 hp
    replace rw0 := rw0.same s7
    have dtl : Dp K G7 (.ref tl2) (.list [.int at_]) := .lst (.inl (.inl a7)) (.cons (.int _) .nil)
    refine ⟨_, rfl, by show 1 ≤ sizeLine; decide, fun dl2 hdl2 => ?_⟩
    have s8 := same_new (o := .lst [.int at_]) hdl2
    have a8 : (upd G7 dl2 (.lst [.int at_])) dl2 = some (.lst [.int at_]) := upd_same
    generalize upd G7 dl2 (.lst [.int at_]) = G8 at *
    replace S := S.trans s8
    replace fx := fx.same s8
    replace hp := sqt_same s8 hp
    replace rw0 := rw0.same s8
    replace dtl := dp_same s8 _ _ dtl
    have ddl : Dp K G8 (.ref dl2) (.list [.int at_]) := .lst (.inl (.inl a8)) (.cons (.int _) .nil)
    refine ⟨by show 3 ≤ sizeLine; decide, fun r2 hr2 => ?_⟩
    have s9 := same_new (o := .tup [.ref e2, .ref tl2, .ref dl2]) hr2
    have a9 : (upd G8 r2 (.tup [.ref e2, .ref tl2, .ref dl2])) r2 = some (.tup [.ref e2, .ref tl2, .ref dl2]) := upd_same
    generalize upd G8 r2 (.tup [.ref e2, .ref tl2, .ref dl2]) = G9 at *
    replace S := S.trans s9
    replace fx := fx.same s9
    replace hp := sqt_same s9 hp
    replace rw0 := rw0.same s9
    replace dtl := dp_same s9 _ _ dtl
    replace ddl := dp_same s9 _ _ ddl
    replace rw0 := rw0.app (Rows.one (C := A.BadCount) ⟨r2, e2, tl2, dl2, _, .list [.int at_], rfl, .inl (.inl a9), fx 2 _ rfl, dtl, ddl, lay_list (by intro d m; simp only [List.mem_cons, List.not_mem_nil, or_false] at m; subst m; exact (.int _ _))⟩)
    clear dtl ddl
    refine ⟨_, rfl, ?_⟩
    refine ⟨_, rfl, e3, A.BadHandover, _, _, rfl, M.BadHandover.xf, M.BadHandover.no _ (by simp), fx 3 _ rfl, rfl, ?_⟩
    refine ⟨by show 1 ≤ sizeLine; decide, fun tl3 htl3 => ?_⟩
    have s10 := same_new (o := .lst [.int at_]) htl3
    have a10 : (upd G9 tl3 (.lst [.int at_])) tl3 = some (.lst [.int at_]) := upd_same
    generalize upd G9 tl3 (.lst [.int at_]) = G10 at *
    replace S := S.trans s10
    replace fx := fx.same s10
    replace hp := sqt_same s10 hp
    replace rw0 := rw0.same s10
    have dtl : Dp K G10 (.ref tl3) (.list [.int at_]) := .lst (.inl (.inl a10)) (.cons (.int _) .nil)
    refine ⟨_, rfl, by show 1 ≤ sizeLine; decide, fun dl3 hdl3 => ?_⟩
    have s11 := same_new (o := .lst [.int at_]) hdl3
    have a11 : (upd G10 dl3 (.lst [.int at_])) dl3 = some (.lst [.int at_]) := upd_same
    generalize upd G10 dl3 (.lst [.int at_]) = G11 at *
    replace S := S.trans s11
    replace fx := fx.same s11
    replace hp := sqt_same s11 hp
    replace rw0 := rw0.same s11
    replace dtl := dp_same s11 _ _ dtl
    have ddl : Dp K G11 (.ref dl3) (.list [.int at_]) := .lst (.inl (.inl a11)) (.cons (.int _) .nil)
    refine ⟨by show 3 ≤ sizeLine; decide, fun r3 hr3 => ?_⟩
    have s12 := same_new (o := .tup [.ref e3, .ref tl3, .ref dl3]) hr3
    have a12 : (upd G11 r3 (.tup [.ref e3, .ref tl3, .ref dl3])) r3 = some (.tup [.ref e3, .ref tl3, .ref dl3]) := upd_same
    generalize upd G11 r3 (.tup [.ref e3, .ref tl3, .ref dl3]) = G12 at *
    replace S := S.trans s12
    replace fx := fx.same s12
    replace hp := sqt_same s12 hp
    replace rw0 := rw0.same s12
    replace dtl := dp_same s12 _ _ dtl
    replace ddl := dp_same s12 _ _ ddl
    replace rw0 := rw0.app (Rows.one (C := A.BadHandover) ⟨r3, e3, tl3, dl3, _, .list [.int at_], rfl, .inl (.inl a12), fx 3 _ rfl, dtl, ddl, lay_list (by intro d m; simp only [List.mem_cons, List.not_mem_nil, or_false] at m; subst m; exact (.int _ _))⟩)
    clear dtl ddl
    refine ⟨by show 4 ≤ sizeLine; decide, fun L0 hL0 => ?_⟩
    have s13 := same_new (o := .lst [V.ref r0, V.ref r1, V.ref r2, V.ref r3]) hL0
    have a13 : (upd G12 L0 (.lst [V.ref r0, V.ref r1, V.ref r2, V.ref r3])) L0 = some (.lst [V.ref r0, V.ref r1, V.ref r2, V.ref r3]) := upd_same
    generalize upd G12 L0 (.lst [V.ref r0, V.ref r1, V.ref r2, V.ref r3]) = G13 at *
    replace S := S.trans s13
    replace fx := fx.same s13
    replace hp := sqt_same s13 hp
    replace rw0 := rw0.same s13
    have b0 := a13
    refine ⟨_, rfl, ?_⟩
    refine ⟨_, rfl, ?_⟩
    refine ⟨_, rfl, e4, A.Ahead, _, _, rfl, M.Ahead.xf, M.Ahead.no _ (by simp), fx 4 _ rfl, rfl, ?_⟩
    refine ⟨by show 1 ≤ sizeLine; decide, fun tl4 htl4 => ?_⟩
    have s14 := same_new (o := .lst [.int at_]) htl4
    have a14 : (upd G13 tl4 (.lst [.int at_])) tl4 = some (.lst [.int at_]) := upd_same
    generalize upd G13 tl4 (.lst [.int at_]) = G14 at *
    replace S := S.trans s14
    replace fx := fx.same s14
    replace hp := sqt_same s14 hp
    replace rw0 := rw0.same s14
    replace b0 := s14 _ _ b0
    have dtl : Dp K G14 (.ref tl4) (.list [.int at_]) := .lst (.inl (.inl a14)) (.cons (.int _) .nil)
    refine ⟨_, rfl, by show 1 ≤ sizeLine; decide, fun dl4 hdl4 => ?_⟩
    have s15 := same_new (o := .lst [.int at_]) hdl4
    have a15 : (upd G14 dl4 (.lst [.int at_])) dl4 = some (.lst [.int at_]) := upd_same
    generalize upd G14 dl4 (.lst [.int at_]) = G15 at *
    replace S := S.trans s15
    replace fx := fx.same s15
    replace hp := sqt_same s15 hp
    replace rw0 := rw0.same s15
    replace dtl := dp_same s15 _ _ dtl
    replace b0 := s15 _ _ b0
    have ddl : Dp K G15 (.ref dl4) (.list [.int at_]) := .lst (.inl (.inl a15)) (.cons (.int _) .nil)
    refine ⟨by show 3 ≤ sizeLine; decide, fun r4 hr4 => ?_⟩
    have s16 := same_new (o := .tup [.ref e4, .ref tl4, .ref dl4]) hr4
    have a16 : (upd G15 r4 (.tup [.ref e4, .ref tl4, .ref dl4])) r4 = some (.tup [.ref e4, .ref tl4, .ref dl4]) := upd_same
    generalize upd G15 r4 (.tup [.ref e4, .ref tl4, .ref dl4]) = G16 at *
    replace S := S.trans s16
    replace fx := fx.same s16
    replace hp := sqt_same s16 hp
    replace rw0 := rw0.same s16
    replace dtl := dp_same s16 _ _ dtl
    replace ddl := dp_same s16 _ _ ddl
    replace b0 := s16 _ _ b0
    replace rw0 := rw0.app (Rows.one (C := A.Ahead) ⟨r4, e4, tl4, dl4, _, .list [.int at_], rfl, .inl (.inl a16), fx 4 _ rfl, dtl, ddl, lay_list (by intro d m; simp only [List.mem_cons, List.not_mem_nil, or_false] at m; subst m; exact (.int _ _))⟩)
    clear dtl ddl
    refine ⟨_, rfl, ?_⟩
    refine ⟨_, rfl, e5, A.BadKept, _, _, rfl, M.BadKept.xf, M.BadKept.no _ (by simp), fx 5 _ rfl, rfl, ?_⟩
    refine ⟨by show 1 ≤ sizeLine; decide, fun tl5 htl5 => ?_⟩
    have s17 := same_new (o := .lst [.int at_]) htl5
    have a17 : (upd G16 tl5 (.lst [.int at_])) tl5 = some (.lst [.int at_]) := upd_same
    generalize upd G16 tl5 (.lst [.int at_]) = G17 at *
    replace S := S.trans s17
    replace fx := fx.same s17
    replace hp := sqt_same s17 hp
    replace rw0 := rw0.same s17
    replace b0 := s17 _ _ b0
    have dtl : Dp K G17 (.ref tl5) (.list [.int at_]) := .lst (.inl (.inl a17)) (.cons (.int _) .nil)
    refine ⟨_, rfl, by show 1 ≤ sizeLine; decide, fun dl5 hdl5 => ?_⟩
    have s18 := same_new (o := .lst [.int at_]) hdl5
    have a18 : (upd G17 dl5 (.lst [.int at_])) dl5 = some (.lst [.int at_]) := upd_same
    generalize upd G17 dl5 (.lst [.int at_]) = G18 at *
    replace S := S.trans s18
    replace fx := fx.same s18
    replace hp := sqt_same s18 hp
    replace rw0 := rw0.same s18
    replace dtl := dp_same s18 _ _ dtl
    replace b0 := s18 _ _ b0
    have ddl : Dp K G18 (.ref dl5) (.list [.int at_]) := .lst (.inl (.inl a18)) (.cons (.int _) .nil)
    refine ⟨by show 3 ≤ sizeLine; decide, fun r5 hr5 => ?_⟩
    have s19 := same_new (o := .tup [.ref e5, .ref tl5, .ref dl5]) hr5
    have a19 : (upd G18 r5 (.tup [.ref e5, .ref tl5, .ref dl5])) r5 = some (.tup [.ref e5, .ref tl5, .ref dl5]) := upd_same
    generalize upd G18 r5 (.tup [.ref e5, .ref tl5, .ref dl5]) = G19 at *
    replace S := S.trans s19
    replace fx := fx.same s19
    replace hp := sqt_same s19 hp
    replace rw0 := rw0.same s19
    replace dtl := dp_same s19 _ _ dtl
    replace ddl := dp_same s19 _ _ ddl
    replace b0 := s19 _ _ b0
    replace rw0 := rw0.app (Rows.one (C := A.BadKept) ⟨r5, e5, tl5, dl5, _, .list [.int at_], rfl, .inl (.inl a19), fx 5 _ rfl, dtl, ddl, lay_list (by intro d m; simp only [List.mem_cons, List.not_mem_nil, or_false] at m; subst m; exact (.int _ _))⟩)
    clear dtl ddl
    refine ⟨_, rfl, ?_⟩
    refine ⟨_, rfl, e6, A.BadDeed, _, _, rfl, M.BadDeed.xf, M.BadDeed.no _ (by simp), fx 6 _ rfl, rfl, ?_⟩
    refine ⟨by show 1 ≤ sizeLine; decide, fun tl6 htl6 => ?_⟩
    have s20 := same_new (o := .lst [.int at_]) htl6
    have a20 : (upd G19 tl6 (.lst [.int at_])) tl6 = some (.lst [.int at_]) := upd_same
    generalize upd G19 tl6 (.lst [.int at_]) = G20 at *
    replace S := S.trans s20
    replace fx := fx.same s20
    replace hp := sqt_same s20 hp
    replace rw0 := rw0.same s20
    replace b0 := s20 _ _ b0
    have dtl : Dp K G20 (.ref tl6) (.list [.int at_]) := .lst (.inl (.inl a20)) (.cons (.int _) .nil)
    refine ⟨_, rfl, by show 1 ≤ sizeLine; decide, fun dl6 hdl6 => ?_⟩
    have s21 := same_new (o := .lst [.int at_]) hdl6
    have a21 : (upd G20 dl6 (.lst [.int at_])) dl6 = some (.lst [.int at_]) := upd_same
    generalize upd G20 dl6 (.lst [.int at_]) = G21 at *
    replace S := S.trans s21
    replace fx := fx.same s21
    replace hp := sqt_same s21 hp
    replace rw0 := rw0.same s21
    replace dtl := dp_same s21 _ _ dtl
    replace b0 := s21 _ _ b0
    have ddl : Dp K G21 (.ref dl6) (.list [.int at_]) := .lst (.inl (.inl a21)) (.cons (.int _) .nil)
    refine ⟨by show 3 ≤ sizeLine; decide, fun r6 hr6 => ?_⟩
    have s22 := same_new (o := .tup [.ref e6, .ref tl6, .ref dl6]) hr6
    have a22 : (upd G21 r6 (.tup [.ref e6, .ref tl6, .ref dl6])) r6 = some (.tup [.ref e6, .ref tl6, .ref dl6]) := upd_same
    generalize upd G21 r6 (.tup [.ref e6, .ref tl6, .ref dl6]) = G22 at *
    replace S := S.trans s22
    replace fx := fx.same s22
    replace hp := sqt_same s22 hp
    replace rw0 := rw0.same s22
    replace dtl := dp_same s22 _ _ dtl
    replace ddl := dp_same s22 _ _ ddl
    replace b0 := s22 _ _ b0
    replace rw0 := rw0.app (Rows.one (C := A.BadDeed) ⟨r6, e6, tl6, dl6, _, .list [.int at_], rfl, .inl (.inl a22), fx 6 _ rfl, dtl, ddl, lay_list (by intro d m; simp only [List.mem_cons, List.not_mem_nil, or_false] at m; subst m; exact (.int _ _))⟩)
    clear dtl ddl
    refine ⟨by show 3 ≤ sizeLine; decide, fun L1 hL1 => ?_⟩
    have s23 := same_new (o := .lst [V.ref r4, V.ref r5, V.ref r6]) hL1
    have a23 : (upd G22 L1 (.lst [V.ref r4, V.ref r5, V.ref r6])) L1 = some (.lst [V.ref r4, V.ref r5, V.ref r6]) := upd_same
    generalize upd G22 L1 (.lst [V.ref r4, V.ref r5, V.ref r6]) = G23 at *
    replace S := S.trans s23
    replace fx := fx.same s23
    replace hp := sqt_same s23 hp
    replace rw0 := rw0.same s23
    replace b0 := s23 _ _ b0
    have b1 := a23
    refine ⟨L0, L1, _, _, rfl, rfl, b0, b1, by show 7 ≤ sizeLine; decide, fun M1 hM1 => ?_⟩
    have s24 := same_new (o := .lst ([V.ref r0, V.ref r1, V.ref r2, V.ref r3] ++ [V.ref r4, V.ref r5, V.ref r6])) hM1
    have a24 : (upd G23 M1 (.lst ([V.ref r0, V.ref r1, V.ref r2, V.ref r3] ++ [V.ref r4, V.ref r5, V.ref r6]))) M1 = some (.lst ([V.ref r0, V.ref r1, V.ref r2, V.ref r3] ++ [V.ref r4, V.ref r5, V.ref r6])) := upd_same
    generalize upd G23 M1 (.lst ([V.ref r0, V.ref r1, V.ref r2, V.ref r3] ++ [V.ref r4, V.ref r5, V.ref r6])) = G24 at *
    replace S := S.trans s24
    replace fx := fx.same s24
    replace hp := sqt_same s24 hp
    replace rw0 := rw0.same s24
    replace b1 := s24 _ _ b1
    replace b0 := s24 _ _ b0
    have c1 := a24
    exact q M1 _ _ S c1 rw0
end
end K51

namespace K51
open PySem L2 Cm
def Adr.all (A : Adr) : List Addr := [A.BadText, A.BadName, A.BadAsks, A.BadTurnName, A.NoTurn, A.BadCode, A.NoKeep, A.BadListing, A.BadJumps, A.BadKind, A.Unfit, A.BadStanding, A.NoCall, A.BadPlan, A.BadMost, A.BadCount, A.BadHandover, A.Ahead, A.BadKept, A.BadDeed]
/-- of which of the twenty classes an error is -/
def spCls (K : PySem.W.Frag) (A : Adr) : Sp := fun vs H Q _ => ∃ (e C : Addr) (kb : Nat → Bool), vs = [.ref e] ∧ ExA H e C ∧ ExcC K C ∧ (∀ j D, A.all[j]? = some D → PySem.W.kitOne K (.ref C) (.ref D) = some (kb j)) ∧
  ∀ (L : Addr) (H' : Hp), Same H H' → H' L = some (.lst ((List.range 20).map fun j => V.bl (kb j))) → Q (.ref L) H'
section
variable {P : Program} {w : World} {K : PySem.W.Frag} {mg : Str → Option Value} {base : Heap} {A : Adr}
abbrev s_l_classes : Stmt := top 30
abbrev N_l_classes : List Str := ["_law_e", "_law_found"]
theorem sc_l_classes : FnScope N_l_classes ["_law_e"] (defScope s_l_classes) := ⟨rfl, rfl, rfl, by decide +kernel, rfl, by decide +kernel, by decide +kernel⟩
theorem ok_classes (T : Txt mg) (M : Ms P w K mg base A) (D : At K mg "_law_classes" s_l_classes ["_law_e"]) : Cl P w K mg base 1 "_law_classes" (spCls K A) := by
  refine cl_of D sc_l_classes (fun vs H Q E h => ?_) fun f cdv A' outer s H vs Q E hr h => ?_
  · obtain ⟨e, C, kb, rfl, _⟩ := h
    rfl
  · obtain ⟨e, C, kb, rfl, x, ec, hk, q⟩ := h
    refine ⟨_, (pss_cons (ps_set (i := 1) sc_l_classes.nd rfl (Or.inl rfl) (pe_lst (pa_cons (pe_callB call_isA (by rfl) T.isinstance (by decide +kernel) (pa_cons (pv 0) (pa_cons (pe_glob (by rfl) M.BadText.g (show RelV (.ref A.BadText) (.ref A.BadText) from rfl)) pa_nil))) (pa_cons (pe_callB call_isA (by rfl) T.isinstance (by decide +kernel) (pa_cons (pv 0) (pa_cons (pe_glob (by rfl) M.BadName.g (show RelV (.ref A.BadName) (.ref A.BadName) from rfl)) pa_nil))) (pa_cons (pe_callB call_isA (by rfl) T.isinstance (by decide +kernel) (pa_cons (pv 0) (pa_cons (pe_glob (by rfl) M.BadAsks.g (show RelV (.ref A.BadAsks) (.ref A.BadAsks) from rfl)) pa_nil))) (pa_cons (pe_callB call_isA (by rfl) T.isinstance (by decide +kernel) (pa_cons (pv 0) (pa_cons (pe_glob (by rfl) M.BadTurnName.g (show RelV (.ref A.BadTurnName) (.ref A.BadTurnName) from rfl)) pa_nil))) pa_nil))))))
      (pss_cons (ps_set (i := 1) sc_l_classes.nd rfl (Or.inl rfl) (pe_op op_cat (pv 1) (pe_lst (pa_cons (pe_callB call_isA (by rfl) T.isinstance (by decide +kernel) (pa_cons (pv 0) (pa_cons (pe_glob (by rfl) M.NoTurn.g (show RelV (.ref A.NoTurn) (.ref A.NoTurn) from rfl)) pa_nil))) (pa_cons (pe_callB call_isA (by rfl) T.isinstance (by decide +kernel) (pa_cons (pv 0) (pa_cons (pe_glob (by rfl) M.BadCode.g (show RelV (.ref A.BadCode) (.ref A.BadCode) from rfl)) pa_nil))) (pa_cons (pe_callB call_isA (by rfl) T.isinstance (by decide +kernel) (pa_cons (pv 0) (pa_cons (pe_glob (by rfl) M.NoKeep.g (show RelV (.ref A.NoKeep) (.ref A.NoKeep) from rfl)) pa_nil))) (pa_cons (pe_callB call_isA (by rfl) T.isinstance (by decide +kernel) (pa_cons (pv 0) (pa_cons (pe_glob (by rfl) M.BadListing.g (show RelV (.ref A.BadListing) (.ref A.BadListing) from rfl)) pa_nil))) pa_nil)))))))
      (pss_cons (ps_set (i := 1) sc_l_classes.nd rfl (Or.inl rfl) (pe_op op_cat (pv 1) (pe_lst (pa_cons (pe_callB call_isA (by rfl) T.isinstance (by decide +kernel) (pa_cons (pv 0) (pa_cons (pe_glob (by rfl) M.BadJumps.g (show RelV (.ref A.BadJumps) (.ref A.BadJumps) from rfl)) pa_nil))) (pa_cons (pe_callB call_isA (by rfl) T.isinstance (by decide +kernel) (pa_cons (pv 0) (pa_cons (pe_glob (by rfl) M.BadKind.g (show RelV (.ref A.BadKind) (.ref A.BadKind) from rfl)) pa_nil))) (pa_cons (pe_callB call_isA (by rfl) T.isinstance (by decide +kernel) (pa_cons (pv 0) (pa_cons (pe_glob (by rfl) M.Unfit.g (show RelV (.ref A.Unfit) (.ref A.Unfit) from rfl)) pa_nil))) (pa_cons (pe_callB call_isA (by rfl) T.isinstance (by decide +kernel) (pa_cons (pv 0) (pa_cons (pe_glob (by rfl) M.BadStanding.g (show RelV (.ref A.BadStanding) (.ref A.BadStanding) from rfl)) pa_nil))) pa_nil)))))))
      (pss_cons (ps_set (i := 1) sc_l_classes.nd rfl (Or.inl rfl) (pe_op op_cat (pv 1) (pe_lst (pa_cons (pe_callB call_isA (by rfl) T.isinstance (by decide +kernel) (pa_cons (pv 0) (pa_cons (pe_glob (by rfl) M.NoCall.g (show RelV (.ref A.NoCall) (.ref A.NoCall) from rfl)) pa_nil))) (pa_cons (pe_callB call_isA (by rfl) T.isinstance (by decide +kernel) (pa_cons (pv 0) (pa_cons (pe_glob (by rfl) M.BadPlan.g (show RelV (.ref A.BadPlan) (.ref A.BadPlan) from rfl)) pa_nil))) (pa_cons (pe_callB call_isA (by rfl) T.isinstance (by decide +kernel) (pa_cons (pv 0) (pa_cons (pe_glob (by rfl) M.BadMost.g (show RelV (.ref A.BadMost) (.ref A.BadMost) from rfl)) pa_nil))) (pa_cons (pe_callB call_isA (by rfl) T.isinstance (by decide +kernel) (pa_cons (pv 0) (pa_cons (pe_glob (by rfl) M.BadCount.g (show RelV (.ref A.BadCount) (.ref A.BadCount) from rfl)) pa_nil))) pa_nil)))))))
      (pss_one (ps_ret (pe_op op_cat (pv 1) (pe_lst (pa_cons (pe_callB call_isA (by rfl) T.isinstance (by decide +kernel) (pa_cons (pv 0) (pa_cons (pe_glob (by rfl) M.BadHandover.g (show RelV (.ref A.BadHandover) (.ref A.BadHandover) from rfl)) pa_nil))) (pa_cons (pe_callB call_isA (by rfl) T.isinstance (by decide +kernel) (pa_cons (pv 0) (pa_cons (pe_glob (by rfl) M.Ahead.g (show RelV (.ref A.Ahead) (.ref A.Ahead) from rfl)) pa_nil))) (pa_cons (pe_callB call_isA (by rfl) T.isinstance (by decide +kernel) (pa_cons (pv 0) (pa_cons (pe_glob (by rfl) M.BadKept.g (show RelV (.ref A.BadKept) (.ref A.BadKept) from rfl)) pa_nil))) (pa_cons (pe_callB call_isA (by rfl) T.isinstance (by decide +kernel) (pa_cons (pv 0) (pa_cons (pe_glob (by rfl) M.BadDeed.g (show RelV (.ref A.BadDeed) (.ref A.BadDeed) from rfl)) pa_nil))) pa_nil)))))))))))), ?_⟩
    have S : Same H H := Same.refl H
    refine ⟨_, rfl, e, C, .ref A.BadText, .ref A.BadText, kb 0, rfl, .own _, ec, x, hk 0 _ rfl, ?_⟩
    refine ⟨_, rfl, e, C, .ref A.BadName, .ref A.BadName, kb 1, rfl, .own _, ec, x, hk 1 _ rfl, ?_⟩
    refine ⟨_, rfl, e, C, .ref A.BadAsks, .ref A.BadAsks, kb 2, rfl, .own _, ec, x, hk 2 _ rfl, ?_⟩
    refine ⟨_, rfl, e, C, .ref A.BadTurnName, .ref A.BadTurnName, kb 3, rfl, .own _, ec, x, hk 3 _ rfl, ?_⟩
    refine ⟨by show 4 ≤ sizeLine; decide, fun L0 hL0 => ?_⟩
    have s2 := same_new (o := .lst [V.bl (kb 0), V.bl (kb 1), V.bl (kb 2), V.bl (kb 3)]) hL0
    have a2 : (upd H L0 (.lst [V.bl (kb 0), V.bl (kb 1), V.bl (kb 2), V.bl (kb 3)])) L0 = some (.lst [V.bl (kb 0), V.bl (kb 1), V.bl (kb 2), V.bl (kb 3)]) := upd_same
    generalize upd H L0 (.lst [V.bl (kb 0), V.bl (kb 1), V.bl (kb 2), V.bl (kb 3)]) = G2 at *
    replace S := S.trans s2
    replace x := x.same s2
    refine ⟨_, rfl, ?_⟩
    refine ⟨_, rfl, e, C, .ref A.NoTurn, .ref A.NoTurn, kb 4, rfl, .own _, ec, x, hk 4 _ rfl, ?_⟩
    refine ⟨_, rfl, e, C, .ref A.BadCode, .ref A.BadCode, kb 5, rfl, .own _, ec, x, hk 5 _ rfl, ?_⟩
    refine ⟨_, rfl, e, C, .ref A.NoKeep, .ref A.NoKeep, kb 6, rfl, .own _, ec, x, hk 6 _ rfl, ?_⟩
    refine ⟨_, rfl, e, C, .ref A.BadListing, .ref A.BadListing, kb 7, rfl, .own _, ec, x, hk 7 _ rfl, ?_⟩
    refine ⟨by show 4 ≤ sizeLine; decide, fun L1 hL1 => ?_⟩
    have s4 := same_new (o := .lst [V.bl (kb 4), V.bl (kb 5), V.bl (kb 6), V.bl (kb 7)]) hL1
    have a4 : (upd G2 L1 (.lst [V.bl (kb 4), V.bl (kb 5), V.bl (kb 6), V.bl (kb 7)])) L1 = some (.lst [V.bl (kb 4), V.bl (kb 5), V.bl (kb 6), V.bl (kb 7)]) := upd_same
    generalize upd G2 L1 (.lst [V.bl (kb 4), V.bl (kb 5), V.bl (kb 6), V.bl (kb 7)]) = G4 at *
    replace S := S.trans s4
    replace x := x.same s4
    replace a2 := s4 _ _ a2
    refine ⟨L0, L1, _, _, rfl, rfl, a2, a4, by show 8 ≤ sizeLine; decide, fun M1 hM1 => ?_⟩
    have s5 := same_new (o := .lst ([V.bl (kb 0), V.bl (kb 1), V.bl (kb 2), V.bl (kb 3)] ++ [V.bl (kb 4), V.bl (kb 5), V.bl (kb 6), V.bl (kb 7)])) hM1
    have a5 : (upd G4 M1 (.lst ([V.bl (kb 0), V.bl (kb 1), V.bl (kb 2), V.bl (kb 3)] ++ [V.bl (kb 4), V.bl (kb 5), V.bl (kb 6), V.bl (kb 7)]))) M1 = some (.lst ([V.bl (kb 0), V.bl (kb 1), V.bl (kb 2), V.bl (kb 3)] ++ [V.bl (kb 4), V.bl (kb 5), V.bl (kb 6), V.bl (kb 7)])) := upd_same
    generalize upd G4 M1 (.lst ([V.bl (kb 0), V.bl (kb 1), V.bl (kb 2), V.bl (kb 3)] ++ [V.bl (kb 4), V.bl (kb 5), V.bl (kb 6), V.bl (kb 7)])) = G5 at *
    replace S := S.trans s5
    replace x := x.same s5
    refine ⟨_, rfl, ?_⟩
    refine ⟨_, rfl, e, C, .ref A.BadJumps, .ref A.BadJumps, kb 8, rfl, .own _, ec, x, hk 8 _ rfl, ?_⟩
    refine ⟨_, rfl, e, C, .ref A.BadKind, .ref A.BadKind, kb 9, rfl, .own _, ec, x, hk 9 _ rfl, ?_⟩
    refine ⟨_, rfl, e, C, .ref A.Unfit, .ref A.Unfit, kb 10, rfl, .own _, ec, x, hk 10 _ rfl, ?_⟩
    refine ⟨_, rfl, e, C, .ref A.BadStanding, .ref A.BadStanding, kb 11, rfl, .own _, ec, x, hk 11 _ rfl, ?_⟩
    refine ⟨by show 4 ≤ sizeLine; decide, fun L2 hL2 => ?_⟩
    have s7 := same_new (o := .lst [V.bl (kb 8), V.bl (kb 9), V.bl (kb 10), V.bl (kb 11)]) hL2
    have a7 : (upd G5 L2 (.lst [V.bl (kb 8), V.bl (kb 9), V.bl (kb 10), V.bl (kb 11)])) L2 = some (.lst [V.bl (kb 8), V.bl (kb 9), V.bl (kb 10), V.bl (kb 11)]) := upd_same
    generalize upd G5 L2 (.lst [V.bl (kb 8), V.bl (kb 9), V.bl (kb 10), V.bl (kb 11)]) = G7 at *
    replace S := S.trans s7
    replace x := x.same s7
    replace a5 := s7 _ _ a5
    refine ⟨M1, L2, _, _, rfl, rfl, a5, a7, by show 12 ≤ sizeLine; decide, fun M2 hM2 => ?_⟩
    have s8 := same_new (o := .lst (([V.bl (kb 0), V.bl (kb 1), V.bl (kb 2), V.bl (kb 3)] ++ [V.bl (kb 4), V.bl (kb 5), V.bl (kb 6), V.bl (kb 7)]) ++ [V.bl (kb 8), V.bl (kb 9), V.bl (kb 10), V.bl (kb 11)])) hM2
    have a8 : (upd G7 M2 (.lst (([V.bl (kb 0), V.bl (kb 1), V.bl (kb 2), V.bl (kb 3)] ++ [V.bl (kb 4), V.bl (kb 5), V.bl (kb 6), V.bl (kb 7)]) ++ [V.bl (kb 8), V.bl (kb 9), V.bl (kb 10), V.bl (kb 11)]))) M2 = some (.lst (([V.bl (kb 0), V.bl (kb 1), V.bl (kb 2), V.bl (kb 3)] ++ [V.bl (kb 4), V.bl (kb 5), V.bl (kb 6), V.bl (kb 7)]) ++ [V.bl (kb 8), V.bl (kb 9), V.bl (kb 10), V.bl (kb 11)])) := upd_same
    generalize upd G7 M2 (.lst (([V.bl (kb 0), V.bl (kb 1), V.bl (kb 2), V.bl (kb 3)] ++ [V.bl (kb 4), V.bl (kb 5), V.bl (kb 6), V.bl (kb 7)]) ++ [V.bl (kb 8), V.bl (kb 9), V.bl (kb 10), V.bl (kb 11)])) = G8 at *
    replace S := S.trans s8
    replace x := x.same s8
    refine ⟨_, rfl, ?_⟩
    refine ⟨_, rfl, e, C, .ref A.NoCall, .ref A.NoCall, kb 12, rfl, .own _, ec, x, hk 12 _ rfl, ?_⟩
    refine ⟨_, rfl, e, C, .ref A.BadPlan, .ref A.BadPlan, kb 13, rfl, .own _, ec, x, hk 13 _ rfl, ?_⟩
    refine ⟨_, rfl, e, C, .ref A.BadMost, .ref A.BadMost, kb 14, rfl, .own _, ec, x, hk 14 _ rfl, ?_⟩
    refine ⟨_, rfl, e, C, .ref A.BadCount, .ref A.BadCount, kb 15, rfl, .own _, ec, x, hk 15 _ rfl, ?_⟩
    refine ⟨by show 4 ≤ sizeLine; decide, fun L3 hL3 => ?_⟩
    have s10 := same_new (o := .lst [V.bl (kb 12), V.bl (kb 13), V.bl (kb 14), V.bl (kb 15)]) hL3
    have a10 : (upd G8 L3 (.lst [V.bl (kb 12), V.bl (kb 13), V.bl (kb 14), V.bl (kb 15)])) L3 = some (.lst [V.bl (kb 12), V.bl (kb 13), V.bl (kb 14), V.bl (kb 15)]) := upd_same
    generalize upd G8 L3 (.lst [V.bl (kb 12), V.bl (kb 13), V.bl (kb 14), V.bl (kb 15)]) = G10 at *
    replace S := S.trans s10
    replace x := x.same s10
    replace a8 := s10 _ _ a8
    refine ⟨M2, L3, _, _, rfl, rfl, a8, a10, by show 16 ≤ sizeLine; decide, fun M3 hM3 => ?_⟩
    have s11 := same_new (o := .lst ((([V.bl (kb 0), V.bl (kb 1), V.bl (kb 2), V.bl (kb 3)] ++ [V.bl (kb 4), V.bl (kb 5), V.bl (kb 6), V.bl (kb 7)]) ++ [V.bl (kb 8), V.bl (kb 9), V.bl (kb 10), V.bl (kb 11)]) ++ [V.bl (kb 12), V.bl (kb 13), V.bl (kb 14), V.bl (kb 15)])) hM3
    have a11 : (upd G10 M3 (.lst ((([V.bl (kb 0), V.bl (kb 1), V.bl (kb 2), V.bl (kb 3)] ++ [V.bl (kb 4), V.bl (kb 5), V.bl (kb 6), V.bl (kb 7)]) ++ [V.bl (kb 8), V.bl (kb 9), V.bl (kb 10), V.bl (kb 11)]) ++ [V.bl (kb 12), V.bl (kb 13), V.bl (kb 14), V.bl (kb 15)]))) M3 = some (.lst ((([V.bl (kb 0), V.bl (kb 1), V.bl (kb 2), V.bl (kb 3)] ++ [V.bl (kb 4), V.bl (kb 5), V.bl (kb 6), V.bl (kb 7)]) ++ [V.bl (kb 8), V.bl (kb 9), V.bl (kb 10), V.bl (kb 11)]) ++ [V.bl (kb 12), V.bl (kb 13), V.bl (kb 14), V.bl (kb 15)])) := upd_same
    generalize upd G10 M3 (.lst ((([V.bl (kb 0), V.bl (kb 1), V.bl (kb 2), V.bl (kb 3)] ++ [V.bl (kb 4), V.bl (kb 5), V.bl (kb 6), V.bl (kb 7)]) ++ [V.bl (kb 8), V.bl (kb 9), V.bl (kb 10), V.bl (kb 11)]) ++ [V.bl (kb 12), V.bl (kb 13), V.bl (kb 14), V.bl (kb 15)])) = G11 at *
    replace S := S.trans s11
    replace x := x.same s11
    refine ⟨_, rfl, ?_⟩
    refine ⟨_, rfl, e, C, .ref A.BadHandover, .ref A.BadHandover, kb 16, rfl, .own _, ec, x, hk 16 _ rfl, ?_⟩
    refine ⟨_, rfl, e, C, .ref A.Ahead, .ref A.Ahead, kb 17, rfl, .own _, ec, x, hk 17 _ rfl, ?_⟩
    refine ⟨_, rfl, e, C, .ref A.BadKept, .ref A.BadKept, kb 18, rfl, .own _, ec, x, hk 18 _ rfl, ?_⟩
    refine ⟨_, rfl, e, C, .ref A.BadDeed, .ref A.BadDeed, kb 19, rfl, .own _, ec, x, hk 19 _ rfl, ?_⟩
    refine ⟨by show 4 ≤ sizeLine; decide, fun L4 hL4 => ?_⟩
    have s13 := same_new (o := .lst [V.bl (kb 16), V.bl (kb 17), V.bl (kb 18), V.bl (kb 19)]) hL4
    have a13 : (upd G11 L4 (.lst [V.bl (kb 16), V.bl (kb 17), V.bl (kb 18), V.bl (kb 19)])) L4 = some (.lst [V.bl (kb 16), V.bl (kb 17), V.bl (kb 18), V.bl (kb 19)]) := upd_same
    generalize upd G11 L4 (.lst [V.bl (kb 16), V.bl (kb 17), V.bl (kb 18), V.bl (kb 19)]) = G13 at *
    replace S := S.trans s13
    replace x := x.same s13
    replace a11 := s13 _ _ a11
    refine ⟨M3, L4, _, _, rfl, rfl, a11, a13, by show 20 ≤ sizeLine; decide, fun M4 hM4 => ?_⟩
    have s14 := same_new (o := .lst (((([V.bl (kb 0), V.bl (kb 1), V.bl (kb 2), V.bl (kb 3)] ++ [V.bl (kb 4), V.bl (kb 5), V.bl (kb 6), V.bl (kb 7)]) ++ [V.bl (kb 8), V.bl (kb 9), V.bl (kb 10), V.bl (kb 11)]) ++ [V.bl (kb 12), V.bl (kb 13), V.bl (kb 14), V.bl (kb 15)]) ++ [V.bl (kb 16), V.bl (kb 17), V.bl (kb 18), V.bl (kb 19)])) hM4
    have a14 : (upd G13 M4 (.lst (((([V.bl (kb 0), V.bl (kb 1), V.bl (kb 2), V.bl (kb 3)] ++ [V.bl (kb 4), V.bl (kb 5), V.bl (kb 6), V.bl (kb 7)]) ++ [V.bl (kb 8), V.bl (kb 9), V.bl (kb 10), V.bl (kb 11)]) ++ [V.bl (kb 12), V.bl (kb 13), V.bl (kb 14), V.bl (kb 15)]) ++ [V.bl (kb 16), V.bl (kb 17), V.bl (kb 18), V.bl (kb 19)]))) M4 = some (.lst (((([V.bl (kb 0), V.bl (kb 1), V.bl (kb 2), V.bl (kb 3)] ++ [V.bl (kb 4), V.bl (kb 5), V.bl (kb 6), V.bl (kb 7)]) ++ [V.bl (kb 8), V.bl (kb 9), V.bl (kb 10), V.bl (kb 11)]) ++ [V.bl (kb 12), V.bl (kb 13), V.bl (kb 14), V.bl (kb 15)]) ++ [V.bl (kb 16), V.bl (kb 17), V.bl (kb 18), V.bl (kb 19)])) := upd_same
    generalize upd G13 M4 (.lst (((([V.bl (kb 0), V.bl (kb 1), V.bl (kb 2), V.bl (kb 3)] ++ [V.bl (kb 4), V.bl (kb 5), V.bl (kb 6), V.bl (kb 7)]) ++ [V.bl (kb 8), V.bl (kb 9), V.bl (kb 10), V.bl (kb 11)]) ++ [V.bl (kb 12), V.bl (kb 13), V.bl (kb 14), V.bl (kb 15)]) ++ [V.bl (kb 16), V.bl (kb 17), V.bl (kb 18), V.bl (kb 19)])) = G14 at *
    replace S := S.trans s14
    replace x := x.same s14
    exact q M4 _ S a14
abbrev s_l_raised : Stmt := top 31
abbrev N_l_raised : List Str := ["_law_at", "_law_word", "_law_told", "_law_e"]
theorem sc_l_raised : FnScope N_l_raised ["_law_at", "_law_word"] (defScope s_l_raised) := ⟨rfl, rfl, rfl, by decide +kernel, rfl, by decide +kernel, by decide +kernel⟩

/-- what the errors' classes are to one another -/
structure Kin (K : PySem.W.Frag) (mg : Str → Option Value) (A : Adr) : Prop where
  gR : mg "RestsError" = some (.ref A.RestsError)
  m1 : PySem.W.exmOne K (.ref A.BadText) (.ref A.BadName) = some false
  m2 : PySem.W.exmOne K (.ref A.BadText) (.ref A.RestsError) = some true
  m3 : PySem.W.exmOne K (.ref A.Unfit) (.ref A.BadStanding) = some false
  m4 : PySem.W.exmOne K (.ref A.Unfit) (.ref A.RestsError) = some true
  v1 : PySem.W.kitOne K (.ref A.BadText) (.ref A.BadText) = some true
  v2 : PySem.W.kitOne K (.ref A.Unfit) (.type "ValueError") = some true
theorem eq_same (x : V) : decide (x = x) = true := by simp
def spRaised (K : PySem.W.Frag) : Sp := fun vs H Q _ => ∃ (at_ : Int) (word : Str), vs = [.int at_, .str word] ∧ ∀ (L : Addr) (H' : Hp), Same H H' → H' L = some (.lst [.bl true, .bl true]) → Q (.ref L) H'
theorem ok_raised (T : Txt mg) (hv : mg "ValueError" = none) (M : Ms P w K mg base A) (kin : Kin K mg A) (D : At K mg "_law_raised" s_l_raised ["_law_at", "_law_word"]) : Cl P w K mg base 3 "_law_raised" (spRaised K) := by
  refine cl_of D sc_l_raised (fun vs H Q E h => ?_) fun f cdv A' outer s H vs Q E hr h => ?_
  · obtain ⟨at_, word, rfl, _⟩ := h
    rfl
  · obtain ⟨at_, word, rfl, q⟩ := h
    refine ⟨_, (pss_cons (ps_set (i := 2) sc_l_raised.nd rfl (Or.inl rfl) (pe_lst pa_nil))
      (pss_mid (ps_try_held2 (i := 3) (tb := fun W => tRaiseMk A.BadText ["place", "what"] W (tCons (tVar 0) (tCons (tVar 1) tNil))) (ts := fun _ => tDrop (tBM K "list" rAppend (tVar 2) (tCons (tAndV (tCB (rIsA K) (tCons (tVar 3) (tCons (tC (.ref A.BadText)) tNil))) (tAndV (tOp rEq (tFldX K "place" (tVar 3)) (tVar 0)) (tOp rEq (tFldX K "what" (tVar 3)) (tVar 1)))) tNil))) rfl rfl sc_l_raised.nd rfl rfl ⟨rfl, by decide, .inl M.BadName.g⟩ ⟨rfl, by decide, .inl kin.gR⟩ rfl
        (fun W pn xe tk _ => pss_one (by exact (ps_raiseMk rfl M.BadText hr (by decide) (by decide) tk (by rfl) (pa_cons (pv 0) (pa_cons (pv 1) pa_nil)))))
        (fun a pn => pss_one (by exact (ps_expr (pe_bm PySem.F.plainAttrs_list PySem.F.slot_list_append PySem.F.type_list_append mt_append (pv 2) (pa_cons (pe_and (pe_callB call_isA (by rfl) T.isinstance (by decide +kernel) (pa_cons (pv 3) (pa_cons (pe_glob (by rfl) M.BadText.g (show RelV (.ref A.BadText) (.ref A.BadText) from rfl)) pa_nil))) (pe_and (pe_cmpR op_eq (pe_fldX (pv 3)) (pv 0) (nomark _)) (pe_one (pe_cmpR op_eq (pe_fldX (pv 3)) (pv 1) (nomark _))))) pa_nil))))))
      (pss_mid (ps_try_held2 (i := 3) (tb := fun W => tRaiseMk A.Unfit ["word", "birth"] W (tCons (tVar 1) (tCons (tVar 0) tNil))) (ts := fun _ => tDrop (tBM K "list" rAppend (tVar 2) (tCons (tAndV (tCB (rIsA K) (tCons (tVar 3) (tCons (tC (.ty "ValueError")) tNil))) (tAndV (tOp rEq (tFldX K "word" (tVar 3)) (tVar 1)) (tOp rEq (tFldX K "birth" (tVar 3)) (tVar 0)))) tNil))) rfl rfl sc_l_raised.nd rfl rfl ⟨rfl, by decide, .inl M.BadStanding.g⟩ ⟨rfl, by decide, .inl kin.gR⟩ rfl
        (fun W pn xe tk _ => pss_one (by exact (ps_raiseMk rfl M.Unfit hr (by decide) (by decide) tk (by rfl) (pa_cons (pv 1) (pa_cons (pv 0) pa_nil)))))
        (fun a pn => pss_one (by exact (ps_expr (pe_bm PySem.F.plainAttrs_list PySem.F.slot_list_append PySem.F.type_list_append mt_append (pv 2) (pa_cons (pe_and (pe_callB call_isA (by rfl) T.isinstance (by decide +kernel) (pa_cons (pv 3) (pa_cons (pe_bltn (v := .ty "ValueError") (by rfl) hv (by rfl) (show RelV (.ty "ValueError") (.type "ValueError") from rfl)) pa_nil))) (pe_and (pe_cmpR op_eq (pe_fldX (pv 3)) (pv 1) (nomark _)) (pe_one (pe_cmpR op_eq (pe_fldX (pv 3)) (pv 0) (nomark _))))) pa_nil))))))
      (pss_one (ps_ret (pv 2)))))), ?_⟩
    refine ⟨by show 0 ≤ sizeLine; decide, fun L hL => ?_⟩
    have s1 := same_new (o := .lst []) hL
    have e1 : (upd H L (.lst [])) L = some (.lst []) := upd_same
    have keep : ∀ (G : Hp) (xs : List V), Same H G → Same H (upd G L (.lst xs)) := fun G xs s => same_put s hL
    generalize upd H L (.lst []) = H1 at *
    refine ⟨fun σ' H' => σ' = [some (.int at_), some (.str word), some (.ref L), none] ∧ Same H H' ∧ H' L = some (.lst [.bl true]), ?_, ?_⟩
    · refine ⟨_, rfl, _, rfl, rfl, fun d H2 s2 ed => ⟨kin.m1, kin.m2, fun a ha => ?_⟩⟩
      have sa := same_new (o := ExH a (.ref A.BadText) (some d)) ha
      have ea : (upd H2 a (ExH a (.ref A.BadText) (some d))) a = some (ExH a (.ref A.BadText) (some d)) := upd_same
      have ed' := sa _ _ ed
      have eL := (s2.trans sa) _ _ e1
      have sH : Same H (upd H2 a (ExH a (.ref A.BadText) (some d))) := (s1.trans s2).trans sa
      generalize upd H2 a (ExH a (.ref A.BadText) (some d)) = G at *
      refine ⟨_, rfl, .inl ⟨rfl, _, .inl (.inl eL)⟩, _, rfl, a, A.BadText, _, _, true, rfl, .own _, M.BadText.ec, .inr (.inr ⟨d, _, ea, ed'⟩), kin.v1, _, rfl, iteT ?_⟩
      refine ⟨_, rfl, a, A.BadText, d, _, .int at_, rfl, M.BadText.xf, M.BadText.no _ (by simp), ea, ed', rfl, _, rfl, rfl, _, rfl, ?_⟩
      rw [eq_same]
      refine iteT ⟨_, rfl, a, A.BadText, d, _, .str word, rfl, M.BadText.xf, M.BadText.no _ (by simp), ea, ed', rfl, _, rfl, rfl, ?_⟩
      rw [eq_same]
      exact ⟨L, _, _, rfl, rfl, eL, by decide, rfl, keep _ _ sH, upd_same⟩
    rintro σ' H2 ⟨rfl, s2, e2⟩
    refine ⟨fun σ' H' => σ' = [some (.int at_), some (.str word), some (.ref L), none] ∧ Same H H' ∧ H' L = some (.lst [.bl true, .bl true]), ?_, ?_⟩
    · refine ⟨_, rfl, _, rfl, rfl, fun d H2 s2b ed => ⟨kin.m3, kin.m4, fun a ha => ?_⟩⟩
      have sa := same_new (o := ExH a (.ref A.Unfit) (some d)) ha
      have ea : (upd H2 a (ExH a (.ref A.Unfit) (some d))) a = some (ExH a (.ref A.Unfit) (some d)) := upd_same
      have ed' := sa _ _ ed
      have eL := (s2b.trans sa) _ _ e2
      have sH : Same H (upd H2 a (ExH a (.ref A.Unfit) (some d))) := (s2.trans s2b).trans sa
      generalize upd H2 a (ExH a (.ref A.Unfit) (some d)) = G at *
      refine ⟨_, rfl, .inl ⟨rfl, _, .inl (.inl eL)⟩, _, rfl, a, A.Unfit, _, _, true, rfl, .ty _, M.Unfit.ec, .inr (.inr ⟨d, _, ea, ed'⟩), kin.v2, _, rfl, iteT ?_⟩
      refine ⟨_, rfl, a, A.Unfit, d, _, .str word, rfl, M.Unfit.xf, M.Unfit.no _ (by simp), ea, ed', rfl, _, rfl, rfl, _, rfl, ?_⟩
      rw [eq_same]
      refine iteT ⟨_, rfl, a, A.Unfit, d, _, .int at_, rfl, M.Unfit.xf, M.Unfit.no _ (by simp), ea, ed', rfl, _, rfl, rfl, ?_⟩
      rw [eq_same]
      exact ⟨L, _, _, rfl, rfl, eL, by decide, rfl, keep _ _ sH, upd_same⟩
    rintro σ' H3 ⟨rfl, s3, e3⟩
    exact ⟨_, rfl, q L H3 s3 e3⟩
end
end K51

namespace K51
open PySem L2 Cm
def spLaw (K : PySem.W.Frag) : Sp := fun vs H Q _ => ∃ (a : Addr) (ns : List Int), vs = [.ref a] ∧ SqL K H a (ns.map V.int) ∧ ns.length ≤ 63 ∧ ∀ H', Q (.bl true) H'
structure Kq (K : PySem.W.Frag) (A : Adr) : Prop where
  k1 : ∀ (i j : Nat) (C D : Addr), A.all[i]? = some C → A.all[j]? = some D → PySem.W.kitOne K (.ref C) (.ref D) = some (decide (j = i))
  kR : ∀ (i : Nat) (C : Addr), A.all[i]? = some C → PySem.W.kitOne K (.ref C) (.ref A.RestsError) = some true
  kV : ∀ (i : Nat) (C : Addr), A.all[i]? = some C → PySem.W.kitOne K (.ref C) (.type "ValueError") = some true
  ec : ∀ (i : Nat) (C : Addr), A.all[i]? = some C → ExcC K C
  r0 : ∀ (j : Nat) (D : Addr), A.all[j]? = some D → PySem.W.kitOne K (.ref A.RestsError) (.ref D) = some false
  rV : PySem.W.kitOne K (.ref A.RestsError) (.type "ValueError") = some true
  ecR : ExcC K A.RestsError
  xR : PySem.W.excIn K A.RestsError [.type "ValueError", .type "Exception", .type "BaseException", .type "object"] "ValueError.__new__" = true
  kR0 : PySem.W.keepIn K (.ref A.RestsError) = true
structure Calls (P : Program) (w : World) (K : PySem.W.Frag) (mg : Str → Option Value) (base : Heap) (A : Adr) : Prop where
  hand : Cl P w K mg base 1 "_law_hand" (spHand K)
  draw : Cl P w K mg base 2 "_law_draw" spDraw
  name : Cl P w K mg base 3 "_law_name" spName
  first : Cl P w K mg base 3 "_law_first" (spRows K [A.BadText, A.BadName, A.BadAsks, A.BadTurnName, A.NoTurn, A.BadCode, A.NoKeep])
  second : Cl P w K mg base 3 "_law_second" (spRows K [A.BadListing, A.BadJumps, A.BadKind, A.Unfit, A.BadStanding, A.NoCall])
  third : Cl P w K mg base 3 "_law_third" (spRows K [A.BadPlan, A.BadMost, A.BadCount, A.BadHandover, A.Ahead, A.BadKept, A.BadDeed])
  classes : Cl P w K mg base 1 "_law_classes" (spCls K A)
  raised : Cl P w K mg base 3 "_law_raised" (spRaised K)
theorem ints_of : ∀ {ds : List PyData}, (∀ d ∈ ds, ∃ b : Int, d = .int b) → ∃ ns : List Int, ds = ns.map PyData.int
  | [], _ => ⟨[], rfl⟩
  | d :: ds, h => by
    obtain ⟨b, rfl⟩ := h d List.mem_cons_self
    obtain ⟨ns, rfl⟩ := ints_of (ds := ds) fun x m => h x (List.mem_cons_of_mem _ m)
    exact ⟨b :: ns, rfl⟩
theorem dp_bls {K : PySem.W.Frag} {H : Hp} : ∀ bs : List Bool, DpAll K H (bs.map V.bl) (bs.map PyData.bool)
  | [] => .nil
  | b :: bs => .cons (.bl b) (dp_bls bs)
theorem sh_bls (bs : List Bool) : SeqAt.shaped (.list (bs.map PyData.bool)) = true := (Lay.lst (n := 1) fun d hd => by
  obtain ⟨b, _, rfl⟩ := List.mem_map.mp hd
  exact ⟨rfl, by simp [PyData.depth]⟩).sh (by decide)
section
variable {P : Program} {w : World} {K : PySem.W.Frag} {mg : Str → Option Value} {base : Heap} {A : Adr}
abbrev s_law : Stmt := top 32
abbrev N_law : List Str := ["_law_script", "_law_hand_here", "_law_at", "_law_word", "_law_name_here", "_law_path", "_law_k", "_law_made", "_law_error", "_law_told", "_law_due", "_law_other", "_law_base"]
theorem sc_law : FnScope N_law ["_law_script"] (defScope s_law) := ⟨rfl, rfl, rfl, by decide +kernel, rfl, by decide +kernel, by decide +kernel⟩
theorem ok_law {f : Addr} {fd : FuncData} (T : Txt mg) (hv : mg "ValueError" = none) (kin : Kin K mg A) (kq : Kq K A) (C : Calls P w K mg base A) (F : Fun K "law" "law" s_law f fd) : LawAt P w K mg base 5 f fd ["_law_script"] (spLaw K) := by
  refine lawAt_of F sc_law (fun vs H Q E h => ?_) fun cdv A' outer s H vs Q E hgd hr h => ?_
  · obtain ⟨a, ns, rfl, _⟩ := h
    rfl
  · obtain ⟨a, ns, rfl, hS, hlen, k⟩ := h
    refine ⟨_, (pss_cons (ps_set (i := 1) sc_law.nd rfl (Or.inr rfl) (pe_c C.hand hr (by decide) (by rfl) (pa_cons (pv 0) pa_nil)))
      (pss_cons (ps_set (i := 2) sc_law.nd rfl (Or.inl rfl) (pe_c C.draw hr (by decide) (by rfl) (pa_cons (pv 1) (pa_cons (pe_op op_pow pe_int pe_int) pa_nil))))
      (pss_cons (ps_set (i := 3) sc_law.nd rfl (Or.inl rfl) (pe_c C.name hr (by decide) (by rfl) (pa_cons (pv 1) pa_nil)))
      (pss_cons (ps_set (i := 4) sc_law.nd rfl (Or.inl rfl) (pe_op op_add_str (pe_op op_add_str (pe_c C.name hr (by decide) (by rfl) (pa_cons (pv 1) pa_nil)) pe_str) (pv 3)))
      (pss_cons (ps_set (i := 5) sc_law.nd rfl (Or.inl rfl) (pe_tupleOf (by rfl) T.tuple (pe_lc (own := [("_law_k", 6)]) rfl sc_law.nd (pi_range1 (by rfl) T.range (pa_cons (pe_c C.draw hr (by decide) (by rfl) (pa_cons (pv 1) (pa_cons pe_int pa_nil))) pa_nil)) (blkOk_by (N := N_law) (sc := defScope s_law) (by decide +kernel))
      (fun _ _ _ _ _ => (pg_name (i := 6) sc_law.nd rfl (Or.inl rfl)))
      (fun _ _ _ _ _ => pts_nil)
      (fun _ _ _ _ _ => (pe_c C.draw hr (by decide) (by rfl) (pa_cons (pv 1) (pa_cons pe_int pa_nil)))))))
      (pss_cons (ps_set (i := 7) sc_law.nd rfl (Or.inl rfl) (pe_op op_cat (pe_op op_cat (pe_c C.first hr (by decide) (by rfl) (pa_cons (pv 2) (pa_cons (pv 3) (pa_cons (pv 4) (pa_cons (pv 5) pa_nil))))) (pe_c C.second hr (by decide) (by rfl) (pa_cons (pv 2) (pa_cons (pv 3) (pa_cons (pv 4) (pa_cons (pv 5) pa_nil)))))) (pe_c C.third hr (by decide) (by rfl) (pa_cons (pv 2) (pa_cons (pv 3) (pa_cons (pv 4) (pa_cons (pv 5) pa_nil)))))))
      (pss_mid (ps_for PassesOwn.never rfl (pi_range1 (by rfl) T.range (pa_cons (pe_callB call_len_seq (by rfl) T.len (by decide +kernel) (pa_cons (pv 7) pa_nil)) pa_nil)) (pg_name (i := 6) sc_law.nd rfl (Or.inr rfl))
        (pss_cons (ps_asg (pe_ix ix_list (pv 7) (pv 6) (fun _ _ => rfl)) (pg_tup (by rfl) (pgs_cons (pg_name (i := 8) sc_law.nd rfl (Or.inl rfl)) (pgs_cons (pg_name (i := 9) sc_law.nd rfl (Or.inl rfl)) (pgs_cons (pg_name (i := 10) sc_law.nd rfl (Or.inl rfl)) pgs_nil)))))
        (pss_cons (ps_if (PW.pt (pw_or (pt_cmpR (op_neD hr.units) (pv 9) (pv 10) (nomark _)) (pw_or (pt_not (pt_val (pe_callB call_isA (by rfl) T.isinstance (by decide +kernel) (pa_cons (pv 8) (pa_cons (pe_glob (by rfl) kin.gR (show RelV (.ref A.RestsError) (.ref A.RestsError) from rfl)) pa_nil))))) (pw_or1 (pt_not (pt_val (pe_callB call_isA (by rfl) T.isinstance (by decide +kernel) (pa_cons (pv 8) (pa_cons (pe_bltn (v := .ty "ValueError") (by rfl) hv (by rfl) (show RelV (.ty "ValueError") (.type "ValueError") from rfl)) pa_nil)))))))))
          (pss_one (ps_ret pe_bl))
          pss_nil)
        (pss_one (ps_if (pt_cmpR (op_neD hr.units) (pe_c C.classes hr (by decide) (by rfl) (pa_cons (pv 8) pa_nil)) (pe_lc (own := [("_law_other", 11)]) rfl sc_law.nd (pi_range1 (by rfl) T.range (pa_cons (pe_callB call_len_seq (by rfl) T.len (by decide +kernel) (pa_cons (pv 7) pa_nil)) pa_nil)) (blkOk_by (N := N_law) (sc := defScope s_law) (by decide +kernel))
      (fun _ _ _ _ _ => (pg_name (i := 11) sc_law.nd rfl (Or.inl rfl)))
      (fun _ _ _ _ _ => pts_nil)
      (fun _ _ _ _ _ => (pe_cmpR op_eq (pv 11) (pv 6) (nomark _)))) (nomark _))
          (pss_one (ps_ret pe_bl))
          pss_nil)))))
      (pss_cons (ps_set (i := 12) sc_law.nd rfl (Or.inl rfl) (pe_exc0 PySem.F.excBase_ValueError kq.xR kin.gR kq.kR0 (by rfl)))
      (pss_cons (ps_if (PW.pt (pw_or (pt_not (pt_val (pe_callB call_isA (by rfl) T.isinstance (by decide +kernel) (pa_cons (pv 12) (pa_cons (pe_bltn (v := .ty "ValueError") (by rfl) hv (by rfl) (show RelV (.ty "ValueError") (.type "ValueError") from rfl)) pa_nil))))) (pw_or1 (pt_cmpR (op_neD hr.units) (pe_c C.classes hr (by decide) (by rfl) (pa_cons (pv 12) pa_nil)) (pe_op op_rep (pe_lst (pa_cons pe_bl pa_nil)) (pe_callB call_len_seq (by rfl) T.len (by decide +kernel) (pa_cons (pv 7) pa_nil))) (nomark _)))))
        (pss_one (ps_ret pe_bl))
        pss_nil)
      (pss_one (ps_ret (pe_and (pe_cmpR op_eq (pe_callB call_len_seq (by rfl) T.len (by decide +kernel) (pa_cons (pv 7) pa_nil)) pe_int (nomark _)) (pe_one (pe_cmpR (op_eqD hr.units) (pe_c C.raised hr (by decide) (by rfl) (pa_cons (pv 2) (pa_cons (pv 3) pa_nil))) (pe_lst (pa_cons pe_bl (pa_cons pe_bl pa_nil))) (nomark _))))))))))))))), ?_⟩
    have z1 : ("z" : Str).length = 1 := by decide +kernel
    refine ⟨_, rfl, a, ns, rfl, hS, hlen, fun h c H1 s1 _ _ hh1 => ?_⟩
    refine ⟨_, rfl, _, _, rfl, rfl, (show CPow 10 12 from ⟨by decide, by decide, by decide⟩), h, c, _, rfl, hh1, by decide, by decide, fun at_ H2 _ _ k2 hh2 => ?_⟩
    refine ⟨_, rfl, h, c, rfl, hh2, fun word H3 hw lw k3 hh3 => ?_⟩
    refine ⟨_, rfl, h, c, rfl, hh3, fun nm0 H4 hn ln k4 hh4 => ⟨nm0, "z", rfl, rfl, Nat.le_trans (show nm0.length + ("z" : Str).length ≤ 101 by omega) (by decide), _, rfl, nm0 ++ "z", word, rfl, rfl, Nat.le_trans (show (nm0 ++ "z" : Str).length + word.length ≤ 300 by rw [len_app]; omega) (by decide), ?_⟩⟩
    have hnm : sok ((nm0 ++ "z") ++ word) := sok_app (sok_app hn (by decide +kernel)) hw
    generalize (nm0 ++ "z") ++ word = nm at *
    refine ⟨_, rfl, h, c, _, rfl, hh4, by decide, by decide, fun m H5 m0 m1 k5 hh5 => ⟨m, rfl, by omega, by omega, fun D hD => ?_⟩⟩
    obtain ⟨m, rfl⟩ : ∃ j : Nat, m = (j : Int) := ⟨m.toNat, by omega⟩
    have nD := hh5.there hD
    refine lc_draw (K := K) (M := fun b => b = h) (walk_range (lo := 0) (n := m)) (fun H' => Hand H' h c) (fun d => ∃ b : Int, d = .int b) (fun b q => by subst q; exact hh5.lst) (hh5.same (same_new hD)) (fun H' ys _ x => x.puts nD.1 nD.2) hD (by omega) (fun _ _ _ => trivial)
      (fun d q => by obtain ⟨b, rfl⟩ := q; rfl) ?_ ?_
    · rintro i x H6 H7 hi kk hh6 ⟨rfl, rfl⟩ Q1 Q0 q1 q0
      refine ⟨rfl, ?_⟩
      exact ⟨_, rfl, h, c, _, rfl, hh6, by decide, by decide, fun b H8 _ _ k8 hh8 => q1 _ H8 (.int b) ⟨b, rfl⟩ k8 hh8 (.int b)⟩
    intro H6 acc ds kk6 hh6 hacc ha hds hdl
    obtain ⟨path, rfl⟩ := ints_of hds
    rw [dpAll_ints_inv ha] at hacc
    refine .inl ⟨D, _, rfl, .inl (.inl hacc), fun pa hpa => ?_⟩
    have hp : SqT K (upd H6 pa (.tup (path.map V.int))) pa (path.map V.int) := .inl (.inl upd_same)
    generalize upd H6 pa (.tup (path.map V.int)) = H7 at *
    refine ⟨_, rfl, _, rfl, _, rfl, _, rfl, at_, word, nm, pa, path, rfl, hw, hnm, hp, fun L1 us1 G1 t1 e1 r1 => ?_⟩
    refine ⟨_, rfl, _, rfl, _, rfl, _, rfl, at_, word, nm, pa, path, rfl, hw, hnm, sqt_same t1 hp, fun L2 us2 G2 t2 e2 r2 => ?_⟩
    have l1 : us1.length = 7 := r1.len
    have l2 : us2.length = 6 := r2.len
    refine ⟨L1, L2, us1, us2, rfl, rfl, t2 _ _ e1, e2, Nat.le_trans (show us1.length + us2.length ≤ 13 by omega) (by decide), fun L3 hL3 => ?_⟩
    have s3 := same_new (o := .lst (us1 ++ us2)) hL3
    have e3 : (upd G2 L3 (.lst (us1 ++ us2))) L3 = some (.lst (us1 ++ us2)) := upd_same
    generalize upd G2 L3 (.lst (us1 ++ us2)) = G3 at *
    refine ⟨_, rfl, _, rfl, _, rfl, _, rfl, at_, word, nm, pa, path, rfl, hw, hnm, sqt_same ((t1.trans t2).trans s3) hp, fun L4 us3 G4 t4 e4 r4 => ?_⟩
    have l3 : us3.length = 7 := r4.len
    refine ⟨L3, L4, us1 ++ us2, us3, rfl, rfl, t4 _ _ e3, e4, Nat.le_trans (show (us1 ++ us2).length + us3.length ≤ 20 by rw [List.length_append]; omega) (by decide), fun LM hLM => ?_⟩
    have s5 := same_new (o := .lst ((us1 ++ us2) ++ us3)) hLM
    have rows : Rows K (upd G4 LM (.lst ((us1 ++ us2) ++ us3))) ((us1 ++ us2) ++ us3) A.all :=
      ((r1.same (((t2.trans s3).trans t4).trans s5)).app (r2.same ((s3.trans t4).trans s5))).app (r4.same s5)
    have eM : (upd G4 LM (.lst ((us1 ++ us2) ++ us3))) LM = some (.lst ((us1 ++ us2) ++ us3)) := upd_same
    have lM : ((us1 ++ us2) ++ us3).length = 20 := by rw [List.length_append, List.length_append]; omega
    generalize upd G4 LM (.lst ((us1 ++ us2) ++ us3)) = G5 at *
    generalize (us1 ++ us2) ++ us3 = us at *
    clear r1 r2 r4 e1 e2 e3 e4 hLM hL3 s3 s5 t1 t2 t4 hp hpa
    refine ⟨fun σ' H' => ∃ v6 v8 v9 v10 : Option V, σ' = [some (.ref a), some (.ref h), some (.int at_), some (.str word), some (.str nm), some (.ref pa), v6, some (.ref LM), v8, v9, v10, none, none] ∧ Same G5 H', ?_, ?_⟩
    · refine ⟨_, rfl, LM, _, rfl, .inl (.inl (.inl eM)), _, rfl, by omega, by omega, ?_⟩
      refine for_it (walk_range (lo := 0) (n := us.length)) (fun i σ' H' => ∃ v6 v8 v9 v10 : Option V, σ' = [some (.ref a), some (.ref h), some (.int at_), some (.str word), some (.str nm), some (.ref pa), v6, some (.ref LM), v8, v9, v10, none, none] ∧ Same G5 H')
        ⟨_, _, _, _, rfl, Same.refl _⟩ (fun _ _ _ _ _ => trivial) ?_ ?_
      · rintro i x σ' H8 H9 hi ⟨v6, v8, v9, v10, rfl, s9⟩ ⟨rfl, rfl⟩
        obtain ⟨v, ev⟩ : ∃ v, us[i]? = some v := ⟨us[i], List.getElem?_eq_getElem hi⟩
        have lA : A.all.length = 20 := rfl
        obtain ⟨Ci, eC⟩ : ∃ C, A.all[i]? = some C := ⟨A.all[i]'(by omega), List.getElem?_eq_getElem (by omega)⟩
        obtain ⟨r, e, tl, dl, fs, d, rfl, hr0, hex, htl, hdl', sh⟩ := (rows.at_ i v Ci ev eC).same s9
        have ec := kq.ec i Ci eC
        refine ⟨_, rfl, _, rfl, LM, _, _, _, rfl, rfl, .inl (.inl (s9 _ _ eM)), by rw [Int.zero_add]; exact atI_nat ev, r, _, rfl, hr0, rfl, _, _, rfl, _, _, rfl, _, _, rfl, rfl, ?_⟩
        refine ⟨_, rfl, _, rfl, d, d, htl, hdl', sh, sh, _, rfl, ?_⟩
        rw [ne_same' sh]
        refine iteF ⟨_, rfl, e, Ci, .ref A.RestsError, .ref A.RestsError, true, rfl, .own _, ec, .inl ⟨fs, hex⟩, kq.kR i Ci eC, _, rfl, iteF ⟨_, rfl, e, Ci, .ty "ValueError", .type "ValueError", true, rfl, .ty _, ec, .inl ⟨fs, hex⟩, kq.kV i Ci eC, _, rfl, iteF ?_⟩⟩
        refine ⟨_, rfl, e, Ci, fun j => decide (j = i), rfl, .inl ⟨fs, hex⟩, ec, fun j Dj ej => kq.k1 i j Ci Dj eC ej, fun Lc Hc sc eLc => ?_⟩
        refine ⟨_, rfl, LM, _, rfl, .inl (.inl (.inl ((s9.trans sc) _ _ eM))), _, rfl, by omega, by omega, fun D2 hD2 => ?_⟩
        refine lc_data (K := K) (walk_range (lo := 0) (n := us.length)) (fun j => some (PyData.bool (decide (j = i)))) hD2 (by omega) (fun _ _ => trivial) (fun j _ d' e' => by cases e'; rfl) ?_ ?_
        · rintro j x H10 H11 hj s10 ⟨rfl, rfl⟩ Q1 Q0 q1 q0
          refine ⟨rfl, ?_⟩
          refine ⟨_, rfl, _, rfl, rfl, q1 _ _ (PyData.bool (decide (j = i))) rfl (Same.refl _) ?_⟩
          have eb : decide (V.int (0 + (j : Nat) : Int) = V.int (0 + (i : Nat) : Int)) = decide (j = i) := by
            by_cases q : j = i
            · subst q; simp
            · have : ¬ (V.int (0 + (j : Nat) : Int) = V.int (0 + (i : Nat) : Int)) := fun z => by
                have z' := V.int.inj z
                omega
              rw [decide_eq_false q, decide_eq_false this]
          rw [eb]
          exact .bl _
        · intro H10 acc s10 hacc ha10
          have efm : (List.range us.length).filterMap (fun j => some (PyData.bool (decide (j = i)))) = ((List.range 20).map fun j => decide (j = i)).map PyData.bool := by
            rw [lM, List.filterMap_eq_map', List.map_map]
            rfl
          rw [efm] at ha10
          have e1 : ((List.range 20).map fun j => V.bl (decide (j = i))) = ((List.range 20).map fun j => decide (j = i)).map V.bl := by rw [List.map_map]; rfl
          rw [e1] at eLc
          refine ⟨_, _, .lst (.inl (.inl (s10 _ _ eLc))) (dp_bls _), .lst (.inl (.inl hacc)) ha10, sh_bls _, sh_bls _, _, rfl, ?_⟩
          rw [ne_same' (sh_bls _)]
          exact iteF ⟨_, _, _, _, rfl, (s9.trans sc).trans s10⟩
      · rintro σ' H8 ⟨v6, v8, v9, v10, rfl, s8⟩
        exact ⟨_, _, _, _, rfl, s8⟩
    rintro σ' H8 ⟨v6, v8, v9, v10, rfl, s8⟩
    refine fun b hb => ?_
    have sb := same_new (o := ExO (.ref A.RestsError) b) hb
    have xb : ExA (upd H8 b (ExO (.ref A.RestsError) b)) b A.RestsError := .inr (.inl upd_same)
    generalize upd H8 b (ExO (.ref A.RestsError) b) = H9 at *
    refine ⟨_, rfl, b, A.RestsError, .ty "ValueError", .type "ValueError", true, rfl, .ty _, kq.ecR, xb, kq.rV, _, rfl, iteF ?_⟩
    refine ⟨_, rfl, b, A.RestsError, fun _ => false, rfl, xb, kq.ecR, fun j Dj ej => kq.r0 j Dj ej, fun Lc Hc sc eLc => ?_⟩
    refine ⟨by show 1 ≤ sizeLine; decide, fun Lf hLf => ?_⟩
    have sf := same_new (o := .lst [.bl false]) hLf
    have ef : (upd Hc Lf (.lst [.bl false])) Lf = some (.lst [.bl false]) := upd_same
    generalize upd Hc Lf (.lst [.bl false]) = Hf at *
    refine ⟨_, rfl, LM, _, rfl, .inl (.inl (.inl ((((s8.trans sb).trans sc).trans sf) _ _ eM))), Lf, _, _, rfl, rfl, ef, by omega, by omega, ?_, fun p hp => ?_⟩
    · have : ((us.length : Nat) : Int).toNat = 20 := by omega
      rw [this]
      exact Nat.le_trans (show 1 * 20 ≤ 20 by decide) (by decide)
    have e20 : ((us.length : Nat) : Int).toNat = 20 := by omega
    rw [e20]
    have sp := same_new (o := .lst (List.replicate 20 [V.bl false]).flatten) hp
    have ep : (upd Hf p (.lst (List.replicate 20 [V.bl false]).flatten)) p = some (.lst (((List.range 20).map fun _ => false).map V.bl)) := upd_same
    generalize upd Hf p (.lst (List.replicate 20 [V.bl false]).flatten) = Hp' at *
    have e1 : ((List.range 20).map fun _ => V.bl false) = ((List.range 20).map fun _ => false).map V.bl := rfl
    rw [e1] at eLc
    refine ⟨_, _, .lst (.inl (.inl ((sf.trans sp) _ _ eLc))) (dp_bls _), .lst (.inl (.inl ep)) (dp_bls _), sh_bls _, sh_bls _, _, rfl, ?_⟩
    rw [ne_same' (sh_bls _)]
    have s10 := (((s8.trans sb).trans sc).trans sf).trans sp
    refine iteF ⟨_, rfl, LM, _, rfl, .inl (.inl (.inl (s10 _ _ eM))), rfl, _, rfl, ?_⟩
    rw [lM]
    refine iteT ⟨_, rfl, _, rfl, at_, word, rfl, fun L9 H10 s9 e9 => ⟨by show 2 ≤ sizeLine; decide, fun q hq => ?_⟩⟩
    have sq := same_new (o := .lst [.bl true, .bl true]) hq
    refine ⟨_, _, .lst (.inl (.inl (sq _ _ e9))) (dp_bls [true, true]), .lst (.inl (.inl upd_same)) (dp_bls [true, true]), sh_bls _, sh_bls _, ?_⟩
    rw [SeqAt.eqv_refl _ (SeqAt.canLay_of_shaped (sh_bls _))]
    exact k _
end
end K51

namespace K51
open PySem L2 Cm
def excB (K : PySem.W.Frag) (C : Addr) : Bool :=
  PySem.W.findIn K (.ref C) "__getattribute__" == some (some (.builtin "BaseException.__getattribute__")) && (PySem.W.findIn K (.ref C) "__getattr__" == some Option.none && (PySem.W.subIn K (.ref C) (.type "BaseException") == some true && (PySem.W.hasDictIn K C &&
    (PySem.W.findIn K (.ref C) "__class__" == some (some (.builtin "object.__class__")) && (PySem.W.specialIn K (.builtin "object.__class__") "__get__" == some (some (.builtin "getset_descriptor.__get__")) && (PySem.W.takesIn K (.builtin "object.__class__") == some true &&
      (PySem.W.mroIn K C (.type "object") == some true && (PySem.W.typeIn K (.ref C) == some (.type "type") && PySem.W.keepIn K (.ref C)))))))))
def clsB (K : PySem.W.Frag) (C fI : Addr) (fl : List Str) : Bool :=
  excB K C && (PySem.W.findIn K (.ref C) "__setattr__" == some (some (.builtin "object.__setattr__")) && ((fl.all fun f => PySem.W.findIn K (.ref C) f == some Option.none) && (PySem.W.typeIn K (.ref fI) == some (.type "function") && PySem.W.keepIn K (.ref fI))))
def kAllB (K : PySem.W.Frag) (Cs : List Addr) (R : Addr) : Bool :=
  ((List.range 20).all fun i => (List.range 20).all fun j => PySem.W.kitOne K (.ref (Cs.getD i 0)) (.ref (Cs.getD j 0)) == some (decide (j = i))) &&
    ((List.range 20).all fun i => PySem.W.kitOne K (.ref (Cs.getD i 0)) (.ref R) == some true && (PySem.W.kitOne K (.ref (Cs.getD i 0)) (.type "ValueError") == some true && (PySem.W.kitOne K (.ref R) (.ref (Cs.getD i 0)) == some false && (excB K (Cs.getD i 0) &&
      (PySem.W.subIn K (.ref (Cs.getD i 0)) (.ref R) == some true))))) && (PySem.W.kitOne K (.ref R) (.type "ValueError") == some true &&
    (PySem.W.subIn K (.ref (Cs.getD 0 0)) (.ref (Cs.getD 1 0)) == some false && PySem.W.subIn K (.ref (Cs.getD 10 0)) (.ref (Cs.getD 11 0)) == some false))
structure ExcF (K : PySem.W.Frag) (C : Addr) : Prop where
  ec : ExcC K C
  xf : XfC K C
  ty : PySem.W.typeIn K (.ref C) = some (.type "type")
  kp : PySem.W.keepIn K (.ref C) = true
theorem excB_ok {K : PySem.W.Frag} {C : Addr} (h : excB K C = true) : ExcF K C := by
  simp only [excB, Bool.and_eq_true, beq_iff_eq] at h
  obtain ⟨h1, h2, h3, h4, h5, h6, h7, h8, h9, h10⟩ := h
  exact ⟨⟨h1, h2, h3, h4, h5, h6, h7, h8⟩, ⟨h1, h2, h3, h4⟩, h9, h10⟩
theorem clsB_kI {K : PySem.W.Frag} {C fI : Addr} {fl : List Str} (h : clsB K C fI fl = true) : PySem.W.keepIn K (.ref fI) = true := by
  simp only [clsB, Bool.and_eq_true, beq_iff_eq] at h
  exact h.2.2.2.2
theorem mk_of {P : Program} {w : World} {K : PySem.W.Frag} {h : Heap} {mg : Str → Option Value} {base : Heap} {C fI R : Addr} {x : Str} {fl ps : List Str} {fd : FuncData} (X : K.In h) (G : h.Ns mainGlobals mg) (a : PySem.W.nsIn K mainGlobals x = some (some (.ref C)))
    {nm q : Str} {N : Addr} {bs : List Value} {sn : List Str} {sub : List Value} {ab : Bool} {col : Option Bool} {dd : Option Addr} {m0 m1 m2 m3 m5 : Option Value}
    (xl : K.lookup C = some (excClassObj nm q C N bs [.ref R, .type "ValueError", .type "Exception", .type "BaseException", .type "object"] true sn sub ab col dd m0 m1 m2 m3 m5 "ValueError.__new__"))
    (i : PySem.W.findIn K (.ref C) "__init__" = some (some (.ref fI))) (o : clsB K C fI fl = true) (F : FnOk P w K mg base CX0 1 fI fd ps (spI K fl)) (b : Binds K fd ps []) : Mk P w K mg base C x fl := by
  simp only [clsB, Bool.and_eq_true, beq_iff_eq, List.all_eq_true] at o
  obtain ⟨o1, o2, o3, o4, o5⟩ := o
  have E := excB_ok o1
  refine ⟨⟨⟨nm, q, N, bs, _, sn, sub, ab, col, dd, m0, m1, m2, m3, m5, xl, ?_⟩, o2, E.ec.hs, E.ty, E.kp⟩, PySem.W.mg_of X G a, E.xf, E.ec, o3, fI, fd, ps, i, o4, F, b⟩
  show PySem.HandSPX.refsVE [.type "ValueError", .type "Exception", .type "BaseException", .type "object"] = true
  decide +kernel
theorem getD_of {Cs : List Addr} {i : Nat} {C : Addr} (h : Cs[i]? = some C) : Cs.getD i 0 = C := by
  rw [List.getD_eq_getElem?_getD, h]
  rfl
theorem kq_of {K : PySem.W.Frag} {A : Adr} (h : kAllB K A.all A.RestsError = true) (r : excB K A.RestsError = true) (x : PySem.W.excIn K A.RestsError [.type "ValueError", .type "Exception", .type "BaseException", .type "object"] "ValueError.__new__" = true) : Kq K A := by
  simp only [kAllB, Bool.and_eq_true, beq_iff_eq, List.all_eq_true, List.mem_range] at h
  obtain ⟨⟨h1, h2⟩, h3, _⟩ := h
  have lt : ∀ {i : Nat} {C : Addr}, A.all[i]? = some C → i < 20 := fun {i C} e => (List.getElem?_eq_some_iff.mp e).1
  have E := excB_ok r
  refine ⟨fun i j C D e1 e2 => ?_, fun i C e => ?_, fun i C e => ?_, fun i C e => ?_, fun i C e => ?_, h3, E.ec, x, E.kp⟩
  · have := h1 i (lt e1) j (lt e2)
    rw [getD_of e1, getD_of e2] at this
    exact this
  · have := (h2 i (lt e)).1
    rw [getD_of e] at this
    exact this
  · have := (h2 i (lt e)).2.1
    rw [getD_of e] at this
    exact this
  · have := (h2 i (lt e)).2.2.2.1
    rw [getD_of e] at this
    exact (excB_ok this).ec
  · have := (h2 i (lt e)).2.2.1
    rw [getD_of e] at this
    exact this
theorem kin_of {K : PySem.W.Frag} {mg : Str → Option Value} {A : Adr} (g : mg "RestsError" = some (.ref A.RestsError)) (h : kAllB K A.all A.RestsError = true) (r : excB K A.RestsError = true) {I1 I2 : Addr} {f1 f2 : List Str} (b1 : clsB K A.BadName I1 f1 = true) (b2 : clsB K A.BadStanding I2 f2 = true) : Kin K mg A := by
  simp only [kAllB, Bool.and_eq_true, beq_iff_eq, List.all_eq_true, List.mem_range] at h
  obtain ⟨⟨h1, h2⟩, _, h4, h5⟩ := h
  have E := excB_ok r
  simp only [clsB, Bool.and_eq_true] at b1 b2
  have E1 := excB_ok b1.1
  have E2 := excB_ok b2.1
  exact ⟨g, PySem.W.exm_ref E1.ec.hs E1.ec.hd E1.ty h4, PySem.W.exm_ref E.ec.hs E.ec.hd E.ty (h2 0 (by decide)).2.2.2.2, PySem.W.exm_ref E2.ec.hs E2.ec.hd E2.ty h5, PySem.W.exm_ref E.ec.hs E.ec.hd E.ty (h2 10 (by decide)).2.2.2.2, h1 0 (by decide) 0 (by decide), (h2 10 (by decide)).2.1⟩
end K51

namespace K51
open PySem L2 Cm
theorem at_mk {K : PySem.W.Frag} {h : Heap} {mg : Str → Option Value} {x : Str} {st : Stmt} {ps : List Str} {f : Addr} {oc : Value} {od an : Option Addr} {osl : Array (Option Value)} {kV doc pm cdv ct : Value} (X : K.In h) (G : h.Ns mainGlobals mg)
    (a : PySem.W.nsIn K mainGlobals x = some (some (.ref f))) (l : K.lookup f = some ⟨oc, od, .func (PySem.W.fnOf x x (defArgs st) (defBody st) (defScope st) .none kV doc pm an cdv ct), osl⟩) (c : PySem.W.codeIn K cdv x = true) (k : PySem.W.keepIn K (.ref f) = true)
    (b : ∀ (kV doc pm : Value) (an : Option Addr) (cdv ct : Value) (us : List Value), us.length = ps.length → bindArgs (PySem.W.fnOf x x (defArgs st) (defBody st) (defScope st) .none kV doc pm an cdv ct) ⟨us, []⟩ = pure (ps.zip us)) : At K mg x st ps :=
  ⟨_, _, fun_mk l c k, PySem.W.mg_of X G a, (fun_mk l c k).binds b⟩
theorem all_mk {l : PySem.W.OpenLaw} {w : World} {K : PySem.W.Frag} {h : Heap} {mg : Str → Option Value} {fa f0 f1 f2 f3 f4 f5 f6 f7 f8 f9 : Addr} (X : K.In h) (G : h.Ns mainGlobals mg) (hfa : mg "law" = some (.ref fa))
    {od0 an0 : Option Addr} {sl0 : Array (Option Value)} {oc0 kV0 dc0 pm0 cd0 ct0 : Value} (a0 : PySem.W.nsIn K mainGlobals "_law_mix" = some (some (.ref f0))) (l0 : K.lookup f0 = some ⟨oc0, od0, .func (PySem.W.fnOf "_law_mix" "_law_mix" (defArgs s_l_mix) (defBody s_l_mix) (defScope s_l_mix) .none kV0 dc0 pm0 an0 cd0 ct0), sl0⟩) (c0 : PySem.W.codeIn K cd0 "_law_mix" = true) (k0 : PySem.W.keepIn K (.ref f0) = true)
    {od1 an1 : Option Addr} {sl1 : Array (Option Value)} {oc1 kV1 dc1 pm1 cd1 ct1 : Value} (a1 : PySem.W.nsIn K mainGlobals "_law_hand" = some (some (.ref f1))) (l1 : K.lookup f1 = some ⟨oc1, od1, .func (PySem.W.fnOf "_law_hand" "_law_hand" (defArgs s_l_hand) (defBody s_l_hand) (defScope s_l_hand) .none kV1 dc1 pm1 an1 cd1 ct1), sl1⟩) (c1 : PySem.W.codeIn K cd1 "_law_hand" = true) (k1 : PySem.W.keepIn K (.ref f1) = true)
    {od2 an2 : Option Addr} {sl2 : Array (Option Value)} {oc2 kV2 dc2 pm2 cd2 ct2 : Value} (a2 : PySem.W.nsIn K mainGlobals "_law_draw" = some (some (.ref f2))) (l2 : K.lookup f2 = some ⟨oc2, od2, .func (PySem.W.fnOf "_law_draw" "_law_draw" (defArgs s_l_draw) (defBody s_l_draw) (defScope s_l_draw) .none kV2 dc2 pm2 an2 cd2 ct2), sl2⟩) (c2 : PySem.W.codeIn K cd2 "_law_draw" = true) (k2 : PySem.W.keepIn K (.ref f2) = true)
    {od3 an3 : Option Addr} {sl3 : Array (Option Value)} {oc3 kV3 dc3 pm3 cd3 ct3 : Value} (a3 : PySem.W.nsIn K mainGlobals "_law_name" = some (some (.ref f3))) (l3 : K.lookup f3 = some ⟨oc3, od3, .func (PySem.W.fnOf "_law_name" "_law_name" (defArgs s_l_name) (defBody s_l_name) (defScope s_l_name) .none kV3 dc3 pm3 an3 cd3 ct3), sl3⟩) (c3 : PySem.W.codeIn K cd3 "_law_name" = true) (k3 : PySem.W.keepIn K (.ref f3) = true)
    {od4 an4 : Option Addr} {sl4 : Array (Option Value)} {oc4 kV4 dc4 pm4 cd4 ct4 : Value} (a4 : PySem.W.nsIn K mainGlobals "_law_first" = some (some (.ref f4))) (l4 : K.lookup f4 = some ⟨oc4, od4, .func (PySem.W.fnOf "_law_first" "_law_first" (defArgs s_l_first) (defBody s_l_first) (defScope s_l_first) .none kV4 dc4 pm4 an4 cd4 ct4), sl4⟩) (c4 : PySem.W.codeIn K cd4 "_law_first" = true) (k4 : PySem.W.keepIn K (.ref f4) = true)
    {od5 an5 : Option Addr} {sl5 : Array (Option Value)} {oc5 kV5 dc5 pm5 cd5 ct5 : Value} (a5 : PySem.W.nsIn K mainGlobals "_law_second" = some (some (.ref f5))) (l5 : K.lookup f5 = some ⟨oc5, od5, .func (PySem.W.fnOf "_law_second" "_law_second" (defArgs s_l_second) (defBody s_l_second) (defScope s_l_second) .none kV5 dc5 pm5 an5 cd5 ct5), sl5⟩) (c5 : PySem.W.codeIn K cd5 "_law_second" = true) (k5 : PySem.W.keepIn K (.ref f5) = true)
    {od6 an6 : Option Addr} {sl6 : Array (Option Value)} {oc6 kV6 dc6 pm6 cd6 ct6 : Value} (a6 : PySem.W.nsIn K mainGlobals "_law_third" = some (some (.ref f6))) (l6 : K.lookup f6 = some ⟨oc6, od6, .func (PySem.W.fnOf "_law_third" "_law_third" (defArgs s_l_third) (defBody s_l_third) (defScope s_l_third) .none kV6 dc6 pm6 an6 cd6 ct6), sl6⟩) (c6 : PySem.W.codeIn K cd6 "_law_third" = true) (k6 : PySem.W.keepIn K (.ref f6) = true)
    {od7 an7 : Option Addr} {sl7 : Array (Option Value)} {oc7 kV7 dc7 pm7 cd7 ct7 : Value} (a7 : PySem.W.nsIn K mainGlobals "_law_classes" = some (some (.ref f7))) (l7 : K.lookup f7 = some ⟨oc7, od7, .func (PySem.W.fnOf "_law_classes" "_law_classes" (defArgs s_l_classes) (defBody s_l_classes) (defScope s_l_classes) .none kV7 dc7 pm7 an7 cd7 ct7), sl7⟩) (c7 : PySem.W.codeIn K cd7 "_law_classes" = true) (k7 : PySem.W.keepIn K (.ref f7) = true)
    {od8 an8 : Option Addr} {sl8 : Array (Option Value)} {oc8 kV8 dc8 pm8 cd8 ct8 : Value} (a8 : PySem.W.nsIn K mainGlobals "_law_raised" = some (some (.ref f8))) (l8 : K.lookup f8 = some ⟨oc8, od8, .func (PySem.W.fnOf "_law_raised" "_law_raised" (defArgs s_l_raised) (defBody s_l_raised) (defScope s_l_raised) .none kV8 dc8 pm8 an8 cd8 ct8), sl8⟩) (c8 : PySem.W.codeIn K cd8 "_law_raised" = true) (k8 : PySem.W.keepIn K (.ref f8) = true)
    {od9 an9 : Option Addr} {sl9 : Array (Option Value)} {oc9 kV9 dc9 pm9 cd9 ct9 : Value} (a9 : PySem.W.nsIn K mainGlobals "law" = some (some (.ref f9))) (l9 : K.lookup f9 = some ⟨oc9, od9, .func (PySem.W.fnOf "law" "law" (defArgs s_law) (defBody s_law) (defScope s_law) .none kV9 dc9 pm9 an9 cd9 ct9), sl9⟩) (c9 : PySem.W.codeIn K cd9 "law" = true) (k9 : PySem.W.keepIn K (.ref f9) = true)
    (z_abs : PySem.W.nsIn K mainGlobals "abs" = some none)
    (z_enumerate : PySem.W.nsIn K mainGlobals "enumerate" = some none)
    (z_int : PySem.W.nsIn K mainGlobals "int" = some none)
    (z_isinstance : PySem.W.nsIn K mainGlobals "isinstance" = some none)
    (z_len : PySem.W.nsIn K mainGlobals "len" = some none)
    (z_range : PySem.W.nsIn K mainGlobals "range" = some none)
    (z_tuple : PySem.W.nsIn K mainGlobals "tuple" = some none)
    {R : Addr} {CBadText IBadText : Addr} {nmBadText qBadText : Str} {NBadText : Addr} {bsBadText : List Value} {snBadText : List Str} {subBadText : List Value} {abBadText : Bool} {colBadText : Option Bool} {ddBadText : Option Addr} {m0BadText m1BadText m2BadText m3BadText m5BadText : Option Value} {odBadText anBadText : Option Addr} {slBadText : Array (Option Value)} {ocBadText kVBadText dcBadText pmBadText cdBadText ctBadText : Value} {CBadName IBadName : Addr} {nmBadName qBadName : Str} {NBadName : Addr} {bsBadName : List Value} {snBadName : List Str} {subBadName : List Value} {abBadName : Bool} {colBadName : Option Bool} {ddBadName : Option Addr} {m0BadName m1BadName m2BadName m3BadName m5BadName : Option Value} {odBadName anBadName : Option Addr} {slBadName : Array (Option Value)} {ocBadName kVBadName dcBadName pmBadName cdBadName ctBadName : Value} {CBadAsks IBadAsks : Addr} {nmBadAsks qBadAsks : Str} {NBadAsks : Addr} {bsBadAsks : List Value} {snBadAsks : List Str} {subBadAsks : List Value} {abBadAsks : Bool} {colBadAsks : Option Bool} {ddBadAsks : Option Addr} {m0BadAsks m1BadAsks m2BadAsks m3BadAsks m5BadAsks : Option Value} {odBadAsks anBadAsks : Option Addr} {slBadAsks : Array (Option Value)} {ocBadAsks kVBadAsks dcBadAsks pmBadAsks cdBadAsks ctBadAsks : Value} {CBadTurnName IBadTurnName : Addr} {nmBadTurnName qBadTurnName : Str} {NBadTurnName : Addr} {bsBadTurnName : List Value} {snBadTurnName : List Str} {subBadTurnName : List Value} {abBadTurnName : Bool} {colBadTurnName : Option Bool} {ddBadTurnName : Option Addr} {m0BadTurnName m1BadTurnName m2BadTurnName m3BadTurnName m5BadTurnName : Option Value} {odBadTurnName anBadTurnName : Option Addr} {slBadTurnName : Array (Option Value)} {ocBadTurnName kVBadTurnName dcBadTurnName pmBadTurnName cdBadTurnName ctBadTurnName : Value} {CNoTurn INoTurn : Addr} {nmNoTurn qNoTurn : Str} {NNoTurn : Addr} {bsNoTurn : List Value} {snNoTurn : List Str} {subNoTurn : List Value} {abNoTurn : Bool} {colNoTurn : Option Bool} {ddNoTurn : Option Addr} {m0NoTurn m1NoTurn m2NoTurn m3NoTurn m5NoTurn : Option Value} {odNoTurn anNoTurn : Option Addr} {slNoTurn : Array (Option Value)} {ocNoTurn kVNoTurn dcNoTurn pmNoTurn cdNoTurn ctNoTurn : Value} {CBadCode IBadCode : Addr} {nmBadCode qBadCode : Str} {NBadCode : Addr} {bsBadCode : List Value} {snBadCode : List Str} {subBadCode : List Value} {abBadCode : Bool} {colBadCode : Option Bool} {ddBadCode : Option Addr} {m0BadCode m1BadCode m2BadCode m3BadCode m5BadCode : Option Value} {odBadCode anBadCode : Option Addr} {slBadCode : Array (Option Value)} {ocBadCode kVBadCode dcBadCode pmBadCode cdBadCode ctBadCode : Value} {CNoKeep INoKeep : Addr} {nmNoKeep qNoKeep : Str} {NNoKeep : Addr} {bsNoKeep : List Value} {snNoKeep : List Str} {subNoKeep : List Value} {abNoKeep : Bool} {colNoKeep : Option Bool} {ddNoKeep : Option Addr} {m0NoKeep m1NoKeep m2NoKeep m3NoKeep m5NoKeep : Option Value} {odNoKeep anNoKeep : Option Addr} {slNoKeep : Array (Option Value)} {ocNoKeep kVNoKeep dcNoKeep pmNoKeep cdNoKeep ctNoKeep : Value} {CBadListing IBadListing : Addr} {nmBadListing qBadListing : Str} {NBadListing : Addr} {bsBadListing : List Value} {snBadListing : List Str} {subBadListing : List Value} {abBadListing : Bool} {colBadListing : Option Bool} {ddBadListing : Option Addr} {m0BadListing m1BadListing m2BadListing m3BadListing m5BadListing : Option Value} {odBadListing anBadListing : Option Addr} {slBadListing : Array (Option Value)} {ocBadListing kVBadListing dcBadListing pmBadListing cdBadListing ctBadListing : Value} {CBadJumps IBadJumps : Addr} {nmBadJumps qBadJumps : Str} {NBadJumps : Addr} {bsBadJumps : List Value} {snBadJumps : List Str} {subBadJumps : List Value} {abBadJumps : Bool} {colBadJumps : Option Bool} {ddBadJumps : Option Addr} {m0BadJumps m1BadJumps m2BadJumps m3BadJumps m5BadJumps : Option Value} {odBadJumps anBadJumps : Option Addr} {slBadJumps : Array (Option Value)} {ocBadJumps kVBadJumps dcBadJumps pmBadJumps cdBadJumps ctBadJumps : Value} {CBadKind IBadKind : Addr} {nmBadKind qBadKind : Str} {NBadKind : Addr} {bsBadKind : List Value} {snBadKind : List Str} {subBadKind : List Value} {abBadKind : Bool} {colBadKind : Option Bool} {ddBadKind : Option Addr} {m0BadKind m1BadKind m2BadKind m3BadKind m5BadKind : Option Value} {odBadKind anBadKind : Option Addr} {slBadKind : Array (Option Value)} {ocBadKind kVBadKind dcBadKind pmBadKind cdBadKind ctBadKind : Value} {CUnfit IUnfit : Addr} {nmUnfit qUnfit : Str} {NUnfit : Addr} {bsUnfit : List Value} {snUnfit : List Str} {subUnfit : List Value} {abUnfit : Bool} {colUnfit : Option Bool} {ddUnfit : Option Addr} {m0Unfit m1Unfit m2Unfit m3Unfit m5Unfit : Option Value} {odUnfit anUnfit : Option Addr} {slUnfit : Array (Option Value)} {ocUnfit kVUnfit dcUnfit pmUnfit cdUnfit ctUnfit : Value} {CBadStanding IBadStanding : Addr} {nmBadStanding qBadStanding : Str} {NBadStanding : Addr} {bsBadStanding : List Value} {snBadStanding : List Str} {subBadStanding : List Value} {abBadStanding : Bool} {colBadStanding : Option Bool} {ddBadStanding : Option Addr} {m0BadStanding m1BadStanding m2BadStanding m3BadStanding m5BadStanding : Option Value} {odBadStanding anBadStanding : Option Addr} {slBadStanding : Array (Option Value)} {ocBadStanding kVBadStanding dcBadStanding pmBadStanding cdBadStanding ctBadStanding : Value} {CNoCall INoCall : Addr} {nmNoCall qNoCall : Str} {NNoCall : Addr} {bsNoCall : List Value} {snNoCall : List Str} {subNoCall : List Value} {abNoCall : Bool} {colNoCall : Option Bool} {ddNoCall : Option Addr} {m0NoCall m1NoCall m2NoCall m3NoCall m5NoCall : Option Value} {odNoCall anNoCall : Option Addr} {slNoCall : Array (Option Value)} {ocNoCall kVNoCall dcNoCall pmNoCall cdNoCall ctNoCall : Value} {CBadPlan IBadPlan : Addr} {nmBadPlan qBadPlan : Str} {NBadPlan : Addr} {bsBadPlan : List Value} {snBadPlan : List Str} {subBadPlan : List Value} {abBadPlan : Bool} {colBadPlan : Option Bool} {ddBadPlan : Option Addr} {m0BadPlan m1BadPlan m2BadPlan m3BadPlan m5BadPlan : Option Value} {odBadPlan anBadPlan : Option Addr} {slBadPlan : Array (Option Value)} {ocBadPlan kVBadPlan dcBadPlan pmBadPlan cdBadPlan ctBadPlan : Value} {CBadMost IBadMost : Addr} {nmBadMost qBadMost : Str} {NBadMost : Addr} {bsBadMost : List Value} {snBadMost : List Str} {subBadMost : List Value} {abBadMost : Bool} {colBadMost : Option Bool} {ddBadMost : Option Addr} {m0BadMost m1BadMost m2BadMost m3BadMost m5BadMost : Option Value} {odBadMost anBadMost : Option Addr} {slBadMost : Array (Option Value)} {ocBadMost kVBadMost dcBadMost pmBadMost cdBadMost ctBadMost : Value} {CBadCount IBadCount : Addr} {nmBadCount qBadCount : Str} {NBadCount : Addr} {bsBadCount : List Value} {snBadCount : List Str} {subBadCount : List Value} {abBadCount : Bool} {colBadCount : Option Bool} {ddBadCount : Option Addr} {m0BadCount m1BadCount m2BadCount m3BadCount m5BadCount : Option Value} {odBadCount anBadCount : Option Addr} {slBadCount : Array (Option Value)} {ocBadCount kVBadCount dcBadCount pmBadCount cdBadCount ctBadCount : Value} {CBadHandover IBadHandover : Addr} {nmBadHandover qBadHandover : Str} {NBadHandover : Addr} {bsBadHandover : List Value} {snBadHandover : List Str} {subBadHandover : List Value} {abBadHandover : Bool} {colBadHandover : Option Bool} {ddBadHandover : Option Addr} {m0BadHandover m1BadHandover m2BadHandover m3BadHandover m5BadHandover : Option Value} {odBadHandover anBadHandover : Option Addr} {slBadHandover : Array (Option Value)} {ocBadHandover kVBadHandover dcBadHandover pmBadHandover cdBadHandover ctBadHandover : Value} {CAhead IAhead : Addr} {nmAhead qAhead : Str} {NAhead : Addr} {bsAhead : List Value} {snAhead : List Str} {subAhead : List Value} {abAhead : Bool} {colAhead : Option Bool} {ddAhead : Option Addr} {m0Ahead m1Ahead m2Ahead m3Ahead m5Ahead : Option Value} {odAhead anAhead : Option Addr} {slAhead : Array (Option Value)} {ocAhead kVAhead dcAhead pmAhead cdAhead ctAhead : Value} {CBadKept IBadKept : Addr} {nmBadKept qBadKept : Str} {NBadKept : Addr} {bsBadKept : List Value} {snBadKept : List Str} {subBadKept : List Value} {abBadKept : Bool} {colBadKept : Option Bool} {ddBadKept : Option Addr} {m0BadKept m1BadKept m2BadKept m3BadKept m5BadKept : Option Value} {odBadKept anBadKept : Option Addr} {slBadKept : Array (Option Value)} {ocBadKept kVBadKept dcBadKept pmBadKept cdBadKept ctBadKept : Value} {CBadDeed IBadDeed : Addr} {nmBadDeed qBadDeed : Str} {NBadDeed : Addr} {bsBadDeed : List Value} {snBadDeed : List Str} {subBadDeed : List Value} {abBadDeed : Bool} {colBadDeed : Option Bool} {ddBadDeed : Option Addr} {m0BadDeed m1BadDeed m2BadDeed m3BadDeed m5BadDeed : Option Value} {odBadDeed anBadDeed : Option Addr} {slBadDeed : Array (Option Value)} {ocBadDeed kVBadDeed dcBadDeed pmBadDeed cdBadDeed ctBadDeed : Value} 
    (aR : PySem.W.nsIn K mainGlobals "RestsError" = some (some (.ref R)))
    (aBadText : PySem.W.nsIn K mainGlobals "BadText" = some (some (.ref CBadText)))
    (xBadText : K.lookup CBadText = some (excClassObj nmBadText qBadText CBadText NBadText bsBadText [.ref R, .type "ValueError", .type "Exception", .type "BaseException", .type "object"] true snBadText subBadText abBadText colBadText ddBadText m0BadText m1BadText m2BadText m3BadText m5BadText "ValueError.__new__"))
    (iBadText : PySem.W.findIn K (.ref CBadText) "__init__" = some (some (.ref IBadText)))
    (lBadText : K.lookup IBadText = some ⟨ocBadText, odBadText, .func (PySem.W.fnOf "__init__" "BadText.__init__" (defArgs i_BadText) (defBody i_BadText) (defScope i_BadText) .none kVBadText dcBadText pmBadText anBadText cdBadText ctBadText), slBadText⟩)
    (cBadText : PySem.W.codeIn K cdBadText "BadText.__init__" = true)
    (oBadText : clsB K CBadText IBadText ["place", "what"] = true)
    (aBadName : PySem.W.nsIn K mainGlobals "BadName" = some (some (.ref CBadName)))
    (xBadName : K.lookup CBadName = some (excClassObj nmBadName qBadName CBadName NBadName bsBadName [.ref R, .type "ValueError", .type "Exception", .type "BaseException", .type "object"] true snBadName subBadName abBadName colBadName ddBadName m0BadName m1BadName m2BadName m3BadName m5BadName "ValueError.__new__"))
    (iBadName : PySem.W.findIn K (.ref CBadName) "__init__" = some (some (.ref IBadName)))
    (lBadName : K.lookup IBadName = some ⟨ocBadName, odBadName, .func (PySem.W.fnOf "__init__" "BadName.__init__" (defArgs i_BadName) (defBody i_BadName) (defScope i_BadName) .none kVBadName dcBadName pmBadName anBadName cdBadName ctBadName), slBadName⟩)
    (cBadName : PySem.W.codeIn K cdBadName "BadName.__init__" = true)
    (oBadName : clsB K CBadName IBadName ["what", "name"] = true)
    (aBadAsks : PySem.W.nsIn K mainGlobals "BadAsks" = some (some (.ref CBadAsks)))
    (xBadAsks : K.lookup CBadAsks = some (excClassObj nmBadAsks qBadAsks CBadAsks NBadAsks bsBadAsks [.ref R, .type "ValueError", .type "Exception", .type "BaseException", .type "object"] true snBadAsks subBadAsks abBadAsks colBadAsks ddBadAsks m0BadAsks m1BadAsks m2BadAsks m3BadAsks m5BadAsks "ValueError.__new__"))
    (iBadAsks : PySem.W.findIn K (.ref CBadAsks) "__init__" = some (some (.ref IBadAsks)))
    (lBadAsks : K.lookup IBadAsks = some ⟨ocBadAsks, odBadAsks, .func (PySem.W.fnOf "__init__" "BadAsks.__init__" (defArgs i_BadAsks) (defBody i_BadAsks) (defScope i_BadAsks) .none kVBadAsks dcBadAsks pmBadAsks anBadAsks cdBadAsks ctBadAsks), slBadAsks⟩)
    (cBadAsks : PySem.W.codeIn K cdBadAsks "BadAsks.__init__" = true)
    (oBadAsks : clsB K CBadAsks IBadAsks ["index"] = true)
    (aBadTurnName : PySem.W.nsIn K mainGlobals "BadTurnName" = some (some (.ref CBadTurnName)))
    (xBadTurnName : K.lookup CBadTurnName = some (excClassObj nmBadTurnName qBadTurnName CBadTurnName NBadTurnName bsBadTurnName [.ref R, .type "ValueError", .type "Exception", .type "BaseException", .type "object"] true snBadTurnName subBadTurnName abBadTurnName colBadTurnName ddBadTurnName m0BadTurnName m1BadTurnName m2BadTurnName m3BadTurnName m5BadTurnName "ValueError.__new__"))
    (iBadTurnName : PySem.W.findIn K (.ref CBadTurnName) "__init__" = some (some (.ref IBadTurnName)))
    (lBadTurnName : K.lookup IBadTurnName = some ⟨ocBadTurnName, odBadTurnName, .func (PySem.W.fnOf "__init__" "BadTurnName.__init__" (defArgs i_BadTurnName) (defBody i_BadTurnName) (defScope i_BadTurnName) .none kVBadTurnName dcBadTurnName pmBadTurnName anBadTurnName cdBadTurnName ctBadTurnName), slBadTurnName⟩)
    (cBadTurnName : PySem.W.codeIn K cdBadTurnName "BadTurnName.__init__" = true)
    (oBadTurnName : clsB K CBadTurnName IBadTurnName ["name"] = true)
    (aNoTurn : PySem.W.nsIn K mainGlobals "NoTurn" = some (some (.ref CNoTurn)))
    (xNoTurn : K.lookup CNoTurn = some (excClassObj nmNoTurn qNoTurn CNoTurn NNoTurn bsNoTurn [.ref R, .type "ValueError", .type "Exception", .type "BaseException", .type "object"] true snNoTurn subNoTurn abNoTurn colNoTurn ddNoTurn m0NoTurn m1NoTurn m2NoTurn m3NoTurn m5NoTurn "ValueError.__new__"))
    (iNoTurn : PySem.W.findIn K (.ref CNoTurn) "__init__" = some (some (.ref INoTurn)))
    (lNoTurn : K.lookup INoTurn = some ⟨ocNoTurn, odNoTurn, .func (PySem.W.fnOf "__init__" "NoTurn.__init__" (defArgs i_NoTurn) (defBody i_NoTurn) (defScope i_NoTurn) .none kVNoTurn dcNoTurn pmNoTurn anNoTurn cdNoTurn ctNoTurn), slNoTurn⟩)
    (cNoTurn : PySem.W.codeIn K cdNoTurn "NoTurn.__init__" = true)
    (oNoTurn : clsB K CNoTurn INoTurn ["path", "name"] = true)
    (aBadCode : PySem.W.nsIn K mainGlobals "BadCode" = some (some (.ref CBadCode)))
    (xBadCode : K.lookup CBadCode = some (excClassObj nmBadCode qBadCode CBadCode NBadCode bsBadCode [.ref R, .type "ValueError", .type "Exception", .type "BaseException", .type "object"] true snBadCode subBadCode abBadCode colBadCode ddBadCode m0BadCode m1BadCode m2BadCode m3BadCode m5BadCode "ValueError.__new__"))
    (iBadCode : PySem.W.findIn K (.ref CBadCode) "__init__" = some (some (.ref IBadCode)))
    (lBadCode : K.lookup IBadCode = some ⟨ocBadCode, odBadCode, .func (PySem.W.fnOf "__init__" "BadCode.__init__" (defArgs i_BadCode) (defBody i_BadCode) (defScope i_BadCode) .none kVBadCode dcBadCode pmBadCode anBadCode cdBadCode ctBadCode), slBadCode⟩)
    (cBadCode : PySem.W.codeIn K cdBadCode "BadCode.__init__" = true)
    (oBadCode : clsB K CBadCode IBadCode ["fault"] = true)
    (aNoKeep : PySem.W.nsIn K mainGlobals "NoKeep" = some (some (.ref CNoKeep)))
    (xNoKeep : K.lookup CNoKeep = some (excClassObj nmNoKeep qNoKeep CNoKeep NNoKeep bsNoKeep [.ref R, .type "ValueError", .type "Exception", .type "BaseException", .type "object"] true snNoKeep subNoKeep abNoKeep colNoKeep ddNoKeep m0NoKeep m1NoKeep m2NoKeep m3NoKeep m5NoKeep "ValueError.__new__"))
    (iNoKeep : PySem.W.findIn K (.ref CNoKeep) "__init__" = some (some (.ref INoKeep)))
    (lNoKeep : K.lookup INoKeep = some ⟨ocNoKeep, odNoKeep, .func (PySem.W.fnOf "__init__" "NoKeep.__init__" (defArgs i_NoKeep) (defBody i_NoKeep) (defScope i_NoKeep) .none kVNoKeep dcNoKeep pmNoKeep anNoKeep cdNoKeep ctNoKeep), slNoKeep⟩)
    (cNoKeep : PySem.W.codeIn K cdNoKeep "NoKeep.__init__" = true)
    (oNoKeep : clsB K CNoKeep INoKeep ["path"] = true)
    (aBadListing : PySem.W.nsIn K mainGlobals "BadListing" = some (some (.ref CBadListing)))
    (xBadListing : K.lookup CBadListing = some (excClassObj nmBadListing qBadListing CBadListing NBadListing bsBadListing [.ref R, .type "ValueError", .type "Exception", .type "BaseException", .type "object"] true snBadListing subBadListing abBadListing colBadListing ddBadListing m0BadListing m1BadListing m2BadListing m3BadListing m5BadListing "ValueError.__new__"))
    (iBadListing : PySem.W.findIn K (.ref CBadListing) "__init__" = some (some (.ref IBadListing)))
    (lBadListing : K.lookup IBadListing = some ⟨ocBadListing, odBadListing, .func (PySem.W.fnOf "__init__" "BadListing.__init__" (defArgs i_BadListing) (defBody i_BadListing) (defScope i_BadListing) .none kVBadListing dcBadListing pmBadListing anBadListing cdBadListing ctBadListing), slBadListing⟩)
    (cBadListing : PySem.W.codeIn K cdBadListing "BadListing.__init__" = true)
    (oBadListing : clsB K CBadListing IBadListing ["line"] = true)
    (aBadJumps : PySem.W.nsIn K mainGlobals "BadJumps" = some (some (.ref CBadJumps)))
    (xBadJumps : K.lookup CBadJumps = some (excClassObj nmBadJumps qBadJumps CBadJumps NBadJumps bsBadJumps [.ref R, .type "ValueError", .type "Exception", .type "BaseException", .type "object"] true snBadJumps subBadJumps abBadJumps colBadJumps ddBadJumps m0BadJumps m1BadJumps m2BadJumps m3BadJumps m5BadJumps "ValueError.__new__"))
    (iBadJumps : PySem.W.findIn K (.ref CBadJumps) "__init__" = some (some (.ref IBadJumps)))
    (lBadJumps : K.lookup IBadJumps = some ⟨ocBadJumps, odBadJumps, .func (PySem.W.fnOf "__init__" "BadJumps.__init__" (defArgs i_BadJumps) (defBody i_BadJumps) (defScope i_BadJumps) .none kVBadJumps dcBadJumps pmBadJumps anBadJumps cdBadJumps ctBadJumps), slBadJumps⟩)
    (cBadJumps : PySem.W.codeIn K cdBadJumps "BadJumps.__init__" = true)
    (oBadJumps : clsB K CBadJumps IBadJumps ["fault"] = true)
    (aBadKind : PySem.W.nsIn K mainGlobals "BadKind" = some (some (.ref CBadKind)))
    (xBadKind : K.lookup CBadKind = some (excClassObj nmBadKind qBadKind CBadKind NBadKind bsBadKind [.ref R, .type "ValueError", .type "Exception", .type "BaseException", .type "object"] true snBadKind subBadKind abBadKind colBadKind ddBadKind m0BadKind m1BadKind m2BadKind m3BadKind m5BadKind "ValueError.__new__"))
    (iBadKind : PySem.W.findIn K (.ref CBadKind) "__init__" = some (some (.ref IBadKind)))
    (lBadKind : K.lookup IBadKind = some ⟨ocBadKind, odBadKind, .func (PySem.W.fnOf "__init__" "BadKind.__init__" (defArgs i_BadKind) (defBody i_BadKind) (defScope i_BadKind) .none kVBadKind dcBadKind pmBadKind anBadKind cdBadKind ctBadKind), slBadKind⟩)
    (cBadKind : PySem.W.codeIn K cdBadKind "BadKind.__init__" = true)
    (oBadKind : clsB K CBadKind IBadKind ["kind"] = true)
    (aUnfit : PySem.W.nsIn K mainGlobals "Unfit" = some (some (.ref CUnfit)))
    (xUnfit : K.lookup CUnfit = some (excClassObj nmUnfit qUnfit CUnfit NUnfit bsUnfit [.ref R, .type "ValueError", .type "Exception", .type "BaseException", .type "object"] true snUnfit subUnfit abUnfit colUnfit ddUnfit m0Unfit m1Unfit m2Unfit m3Unfit m5Unfit "ValueError.__new__"))
    (iUnfit : PySem.W.findIn K (.ref CUnfit) "__init__" = some (some (.ref IUnfit)))
    (lUnfit : K.lookup IUnfit = some ⟨ocUnfit, odUnfit, .func (PySem.W.fnOf "__init__" "Unfit.__init__" (defArgs i_Unfit) (defBody i_Unfit) (defScope i_Unfit) .none kVUnfit dcUnfit pmUnfit anUnfit cdUnfit ctUnfit), slUnfit⟩)
    (cUnfit : PySem.W.codeIn K cdUnfit "Unfit.__init__" = true)
    (oUnfit : clsB K CUnfit IUnfit ["word", "birth"] = true)
    (aBadStanding : PySem.W.nsIn K mainGlobals "BadStanding" = some (some (.ref CBadStanding)))
    (xBadStanding : K.lookup CBadStanding = some (excClassObj nmBadStanding qBadStanding CBadStanding NBadStanding bsBadStanding [.ref R, .type "ValueError", .type "Exception", .type "BaseException", .type "object"] true snBadStanding subBadStanding abBadStanding colBadStanding ddBadStanding m0BadStanding m1BadStanding m2BadStanding m3BadStanding m5BadStanding "ValueError.__new__"))
    (iBadStanding : PySem.W.findIn K (.ref CBadStanding) "__init__" = some (some (.ref IBadStanding)))
    (lBadStanding : K.lookup IBadStanding = some ⟨ocBadStanding, odBadStanding, .func (PySem.W.fnOf "__init__" "BadStanding.__init__" (defArgs i_BadStanding) (defBody i_BadStanding) (defScope i_BadStanding) .none kVBadStanding dcBadStanding pmBadStanding anBadStanding cdBadStanding ctBadStanding), slBadStanding⟩)
    (cBadStanding : PySem.W.codeIn K cdBadStanding "BadStanding.__init__" = true)
    (oBadStanding : clsB K CBadStanding IBadStanding ["place", "what"] = true)
    (aNoCall : PySem.W.nsIn K mainGlobals "NoCall" = some (some (.ref CNoCall)))
    (xNoCall : K.lookup CNoCall = some (excClassObj nmNoCall qNoCall CNoCall NNoCall bsNoCall [.ref R, .type "ValueError", .type "Exception", .type "BaseException", .type "object"] true snNoCall subNoCall abNoCall colNoCall ddNoCall m0NoCall m1NoCall m2NoCall m3NoCall m5NoCall "ValueError.__new__"))
    (iNoCall : PySem.W.findIn K (.ref CNoCall) "__init__" = some (some (.ref INoCall)))
    (lNoCall : K.lookup INoCall = some ⟨ocNoCall, odNoCall, .func (PySem.W.fnOf "__init__" "NoCall.__init__" (defArgs i_NoCall) (defBody i_NoCall) (defScope i_NoCall) .none kVNoCall dcNoCall pmNoCall anNoCall cdNoCall ctNoCall), slNoCall⟩)
    (cNoCall : PySem.W.codeIn K cdNoCall "NoCall.__init__" = true)
    (oNoCall : clsB K CNoCall INoCall ["outcome"] = true)
    (aBadPlan : PySem.W.nsIn K mainGlobals "BadPlan" = some (some (.ref CBadPlan)))
    (xBadPlan : K.lookup CBadPlan = some (excClassObj nmBadPlan qBadPlan CBadPlan NBadPlan bsBadPlan [.ref R, .type "ValueError", .type "Exception", .type "BaseException", .type "object"] true snBadPlan subBadPlan abBadPlan colBadPlan ddBadPlan m0BadPlan m1BadPlan m2BadPlan m3BadPlan m5BadPlan "ValueError.__new__"))
    (iBadPlan : PySem.W.findIn K (.ref CBadPlan) "__init__" = some (some (.ref IBadPlan)))
    (lBadPlan : K.lookup IBadPlan = some ⟨ocBadPlan, odBadPlan, .func (PySem.W.fnOf "__init__" "BadPlan.__init__" (defArgs i_BadPlan) (defBody i_BadPlan) (defScope i_BadPlan) .none kVBadPlan dcBadPlan pmBadPlan anBadPlan cdBadPlan ctBadPlan), slBadPlan⟩)
    (cBadPlan : PySem.W.codeIn K cdBadPlan "BadPlan.__init__" = true)
    (oBadPlan : clsB K CBadPlan IBadPlan ["place"] = true)
    (aBadMost : PySem.W.nsIn K mainGlobals "BadMost" = some (some (.ref CBadMost)))
    (xBadMost : K.lookup CBadMost = some (excClassObj nmBadMost qBadMost CBadMost NBadMost bsBadMost [.ref R, .type "ValueError", .type "Exception", .type "BaseException", .type "object"] true snBadMost subBadMost abBadMost colBadMost ddBadMost m0BadMost m1BadMost m2BadMost m3BadMost m5BadMost "ValueError.__new__"))
    (iBadMost : PySem.W.findIn K (.ref CBadMost) "__init__" = some (some (.ref IBadMost)))
    (lBadMost : K.lookup IBadMost = some ⟨ocBadMost, odBadMost, .func (PySem.W.fnOf "__init__" "BadMost.__init__" (defArgs i_BadMost) (defBody i_BadMost) (defScope i_BadMost) .none kVBadMost dcBadMost pmBadMost anBadMost cdBadMost ctBadMost), slBadMost⟩)
    (cBadMost : PySem.W.codeIn K cdBadMost "BadMost.__init__" = true)
    (oBadMost : clsB K CBadMost IBadMost ["most"] = true)
    (aBadCount : PySem.W.nsIn K mainGlobals "BadCount" = some (some (.ref CBadCount)))
    (xBadCount : K.lookup CBadCount = some (excClassObj nmBadCount qBadCount CBadCount NBadCount bsBadCount [.ref R, .type "ValueError", .type "Exception", .type "BaseException", .type "object"] true snBadCount subBadCount abBadCount colBadCount ddBadCount m0BadCount m1BadCount m2BadCount m3BadCount m5BadCount "ValueError.__new__"))
    (iBadCount : PySem.W.findIn K (.ref CBadCount) "__init__" = some (some (.ref IBadCount)))
    (lBadCount : K.lookup IBadCount = some ⟨ocBadCount, odBadCount, .func (PySem.W.fnOf "__init__" "BadCount.__init__" (defArgs i_BadCount) (defBody i_BadCount) (defScope i_BadCount) .none kVBadCount dcBadCount pmBadCount anBadCount cdBadCount ctBadCount), slBadCount⟩)
    (cBadCount : PySem.W.codeIn K cdBadCount "BadCount.__init__" = true)
    (oBadCount : clsB K CBadCount IBadCount ["many"] = true)
    (aBadHandover : PySem.W.nsIn K mainGlobals "BadHandover" = some (some (.ref CBadHandover)))
    (xBadHandover : K.lookup CBadHandover = some (excClassObj nmBadHandover qBadHandover CBadHandover NBadHandover bsBadHandover [.ref R, .type "ValueError", .type "Exception", .type "BaseException", .type "object"] true snBadHandover subBadHandover abBadHandover colBadHandover ddBadHandover m0BadHandover m1BadHandover m2BadHandover m3BadHandover m5BadHandover "ValueError.__new__"))
    (iBadHandover : PySem.W.findIn K (.ref CBadHandover) "__init__" = some (some (.ref IBadHandover)))
    (lBadHandover : K.lookup IBadHandover = some ⟨ocBadHandover, odBadHandover, .func (PySem.W.fnOf "__init__" "BadHandover.__init__" (defArgs i_BadHandover) (defBody i_BadHandover) (defScope i_BadHandover) .none kVBadHandover dcBadHandover pmBadHandover anBadHandover cdBadHandover ctBadHandover), slBadHandover⟩)
    (cBadHandover : PySem.W.codeIn K cdBadHandover "BadHandover.__init__" = true)
    (oBadHandover : clsB K CBadHandover IBadHandover ["index"] = true)
    (aAhead : PySem.W.nsIn K mainGlobals "Ahead" = some (some (.ref CAhead)))
    (xAhead : K.lookup CAhead = some (excClassObj nmAhead qAhead CAhead NAhead bsAhead [.ref R, .type "ValueError", .type "Exception", .type "BaseException", .type "object"] true snAhead subAhead abAhead colAhead ddAhead m0Ahead m1Ahead m2Ahead m3Ahead m5Ahead "ValueError.__new__"))
    (iAhead : PySem.W.findIn K (.ref CAhead) "__init__" = some (some (.ref IAhead)))
    (lAhead : K.lookup IAhead = some ⟨ocAhead, odAhead, .func (PySem.W.fnOf "__init__" "Ahead.__init__" (defArgs i_Ahead) (defBody i_Ahead) (defScope i_Ahead) .none kVAhead dcAhead pmAhead anAhead cdAhead ctAhead), slAhead⟩)
    (cAhead : PySem.W.codeIn K cdAhead "Ahead.__init__" = true)
    (oAhead : clsB K CAhead IAhead ["shown"] = true)
    (aBadKept : PySem.W.nsIn K mainGlobals "BadKept" = some (some (.ref CBadKept)))
    (xBadKept : K.lookup CBadKept = some (excClassObj nmBadKept qBadKept CBadKept NBadKept bsBadKept [.ref R, .type "ValueError", .type "Exception", .type "BaseException", .type "object"] true snBadKept subBadKept abBadKept colBadKept ddBadKept m0BadKept m1BadKept m2BadKept m3BadKept m5BadKept "ValueError.__new__"))
    (iBadKept : PySem.W.findIn K (.ref CBadKept) "__init__" = some (some (.ref IBadKept)))
    (lBadKept : K.lookup IBadKept = some ⟨ocBadKept, odBadKept, .func (PySem.W.fnOf "__init__" "BadKept.__init__" (defArgs i_BadKept) (defBody i_BadKept) (defScope i_BadKept) .none kVBadKept dcBadKept pmBadKept anBadKept cdBadKept ctBadKept), slBadKept⟩)
    (cBadKept : PySem.W.codeIn K cdBadKept "BadKept.__init__" = true)
    (oBadKept : clsB K CBadKept IBadKept ["calls"] = true)
    (aBadDeed : PySem.W.nsIn K mainGlobals "BadDeed" = some (some (.ref CBadDeed)))
    (xBadDeed : K.lookup CBadDeed = some (excClassObj nmBadDeed qBadDeed CBadDeed NBadDeed bsBadDeed [.ref R, .type "ValueError", .type "Exception", .type "BaseException", .type "object"] true snBadDeed subBadDeed abBadDeed colBadDeed ddBadDeed m0BadDeed m1BadDeed m2BadDeed m3BadDeed m5BadDeed "ValueError.__new__"))
    (iBadDeed : PySem.W.findIn K (.ref CBadDeed) "__init__" = some (some (.ref IBadDeed)))
    (lBadDeed : K.lookup IBadDeed = some ⟨ocBadDeed, odBadDeed, .func (PySem.W.fnOf "__init__" "BadDeed.__init__" (defArgs i_BadDeed) (defBody i_BadDeed) (defScope i_BadDeed) .none kVBadDeed dcBadDeed pmBadDeed anBadDeed cdBadDeed ctBadDeed), slBadDeed⟩)
    (cBadDeed : PySem.W.codeIn K cdBadDeed "BadDeed.__init__" = true)
    (oBadDeed : clsB K CBadDeed IBadDeed ["index"] = true)
    (oR : excB K R = true)
    (xR : PySem.W.excIn K R [.type "ValueError", .type "Exception", .type "BaseException", .type "object"] "ValueError.__new__" = true)
    (kAll : kAllB K [CBadText, CBadName, CBadAsks, CBadTurnName, CNoTurn, CBadCode, CNoKeep, CBadListing, CBadJumps, CBadKind, CUnfit, CBadStanding, CNoCall, CBadPlan, CBadMost, CBadCount, CBadHandover, CAhead, CBadKept, CBadDeed] R = true)
    (z_ValueError : PySem.W.nsIn K mainGlobals "ValueError" = some none)
    : ∃ fd : FuncData, (∀ (s : Shared) (v : Value), BindsTo s fd ⟨[v], []⟩ [("_law_script", v)]) ∧ ∀ base : Heap, K.In base → base.Ns mainGlobals mg → LawAt l.prog w K mg base 5 fa fd ["_law_script"] (spLaw K) := by
  have e := hfa.symm.trans (PySem.W.mg_of X G a9)
  cases e
  have T : Txt mg := ⟨PySem.W.mg_none_of X G z_abs, PySem.W.mg_none_of X G z_enumerate, PySem.W.mg_none_of X G z_int, PySem.W.mg_none_of X G z_isinstance, PySem.W.mg_none_of X G z_len, PySem.W.mg_none_of X G z_range, PySem.W.mg_none_of X G z_tuple⟩
  have D_mix := at_mk (st := s_l_mix) (ps := ["_law_number", "_law_turn"]) X G a0 l0 c0 k0 fun _ _ _ _ _ _ us hl => match us, hl with | [_, _], _ => rfl
  have D_hand := at_mk (st := s_l_hand) (ps := ["_law_script"]) X G a1 l1 c1 k1 fun _ _ _ _ _ _ us hl => match us, hl with | [_], _ => rfl
  have D_draw := at_mk (st := s_l_draw) (ps := ["_law_hand_here", "_law_many"]) X G a2 l2 c2 k2 fun _ _ _ _ _ _ us hl => match us, hl with | [_, _], _ => rfl
  have D_name := at_mk (st := s_l_name) (ps := ["_law_hand_here"]) X G a3 l3 c3 k3 fun _ _ _ _ _ _ us hl => match us, hl with | [_], _ => rfl
  have D_first := at_mk (st := s_l_first) (ps := ["_law_at", "_law_word", "_law_name_here", "_law_path"]) X G a4 l4 c4 k4 fun _ _ _ _ _ _ us hl => match us, hl with | [_, _, _, _], _ => rfl
  have D_second := at_mk (st := s_l_second) (ps := ["_law_at", "_law_word", "_law_name_here", "_law_path"]) X G a5 l5 c5 k5 fun _ _ _ _ _ _ us hl => match us, hl with | [_, _, _, _], _ => rfl
  have D_third := at_mk (st := s_l_third) (ps := ["_law_at", "_law_word", "_law_name_here", "_law_path"]) X G a6 l6 c6 k6 fun _ _ _ _ _ _ us hl => match us, hl with | [_, _, _, _], _ => rfl
  have D_classes := at_mk (st := s_l_classes) (ps := ["_law_e"]) X G a7 l7 c7 k7 fun _ _ _ _ _ _ us hl => match us, hl with | [_], _ => rfl
  have D_raised := at_mk (st := s_l_raised) (ps := ["_law_at", "_law_word"]) X G a8 l8 c8 k8 fun _ _ _ _ _ _ us hl => match us, hl with | [_, _], _ => rfl
  refine ⟨PySem.W.fnOf "law" "law" (defArgs s_law) (defBody s_law) (defScope s_law) .none kV9 dc9 pm9 an9 cd9 ct9, fun s v => .of_eq rfl, fun base _ _ => ?_⟩
  let A : Adr := ⟨CBadText, CBadName, CBadAsks, CBadTurnName, CNoTurn, CBadCode, CNoKeep, CBadListing, CBadJumps, CBadKind, CUnfit, CBadStanding, CNoCall, CBadPlan, CBadMost, CBadCount, CBadHandover, CAhead, CBadKept, CBadDeed, R⟩
  have M : Ms l.prog w K mg base A := ⟨mk_of X G aBadText xBadText iBadText oBadText (ok_BadText (fun_mk lBadText cBadText (clsB_kI oBadText))) ((fun_mk (st := i_BadText) lBadText cBadText (clsB_kI oBadText)).binds fun _ _ _ _ _ _ us hl => match us, hl with | [_, _, _], _ => rfl),
    mk_of X G aBadName xBadName iBadName oBadName (ok_BadName (fun_mk lBadName cBadName (clsB_kI oBadName))) ((fun_mk (st := i_BadName) lBadName cBadName (clsB_kI oBadName)).binds fun _ _ _ _ _ _ us hl => match us, hl with | [_, _, _], _ => rfl),
    mk_of X G aBadAsks xBadAsks iBadAsks oBadAsks (ok_BadAsks (fun_mk lBadAsks cBadAsks (clsB_kI oBadAsks))) ((fun_mk (st := i_BadAsks) lBadAsks cBadAsks (clsB_kI oBadAsks)).binds fun _ _ _ _ _ _ us hl => match us, hl with | [_, _], _ => rfl),
    mk_of X G aBadTurnName xBadTurnName iBadTurnName oBadTurnName (ok_BadTurnName (fun_mk lBadTurnName cBadTurnName (clsB_kI oBadTurnName))) ((fun_mk (st := i_BadTurnName) lBadTurnName cBadTurnName (clsB_kI oBadTurnName)).binds fun _ _ _ _ _ _ us hl => match us, hl with | [_, _], _ => rfl),
    mk_of X G aNoTurn xNoTurn iNoTurn oNoTurn (ok_NoTurn (fun_mk lNoTurn cNoTurn (clsB_kI oNoTurn))) ((fun_mk (st := i_NoTurn) lNoTurn cNoTurn (clsB_kI oNoTurn)).binds fun _ _ _ _ _ _ us hl => match us, hl with | [_, _, _], _ => rfl),
    mk_of X G aBadCode xBadCode iBadCode oBadCode (ok_BadCode (fun_mk lBadCode cBadCode (clsB_kI oBadCode))) ((fun_mk (st := i_BadCode) lBadCode cBadCode (clsB_kI oBadCode)).binds fun _ _ _ _ _ _ us hl => match us, hl with | [_, _], _ => rfl),
    mk_of X G aNoKeep xNoKeep iNoKeep oNoKeep (ok_NoKeep (fun_mk lNoKeep cNoKeep (clsB_kI oNoKeep))) ((fun_mk (st := i_NoKeep) lNoKeep cNoKeep (clsB_kI oNoKeep)).binds fun _ _ _ _ _ _ us hl => match us, hl with | [_, _], _ => rfl),
    mk_of X G aBadListing xBadListing iBadListing oBadListing (ok_BadListing (fun_mk lBadListing cBadListing (clsB_kI oBadListing))) ((fun_mk (st := i_BadListing) lBadListing cBadListing (clsB_kI oBadListing)).binds fun _ _ _ _ _ _ us hl => match us, hl with | [_, _], _ => rfl),
    mk_of X G aBadJumps xBadJumps iBadJumps oBadJumps (ok_BadJumps (fun_mk lBadJumps cBadJumps (clsB_kI oBadJumps))) ((fun_mk (st := i_BadJumps) lBadJumps cBadJumps (clsB_kI oBadJumps)).binds fun _ _ _ _ _ _ us hl => match us, hl with | [_, _], _ => rfl),
    mk_of X G aBadKind xBadKind iBadKind oBadKind (ok_BadKind (fun_mk lBadKind cBadKind (clsB_kI oBadKind))) ((fun_mk (st := i_BadKind) lBadKind cBadKind (clsB_kI oBadKind)).binds fun _ _ _ _ _ _ us hl => match us, hl with | [_, _], _ => rfl),
    mk_of X G aUnfit xUnfit iUnfit oUnfit (ok_Unfit (fun_mk lUnfit cUnfit (clsB_kI oUnfit))) ((fun_mk (st := i_Unfit) lUnfit cUnfit (clsB_kI oUnfit)).binds fun _ _ _ _ _ _ us hl => match us, hl with | [_, _, _], _ => rfl),
    mk_of X G aBadStanding xBadStanding iBadStanding oBadStanding (ok_BadStanding (fun_mk lBadStanding cBadStanding (clsB_kI oBadStanding))) ((fun_mk (st := i_BadStanding) lBadStanding cBadStanding (clsB_kI oBadStanding)).binds fun _ _ _ _ _ _ us hl => match us, hl with | [_, _, _], _ => rfl),
    mk_of X G aNoCall xNoCall iNoCall oNoCall (ok_NoCall (fun_mk lNoCall cNoCall (clsB_kI oNoCall))) ((fun_mk (st := i_NoCall) lNoCall cNoCall (clsB_kI oNoCall)).binds fun _ _ _ _ _ _ us hl => match us, hl with | [_, _], _ => rfl),
    mk_of X G aBadPlan xBadPlan iBadPlan oBadPlan (ok_BadPlan (fun_mk lBadPlan cBadPlan (clsB_kI oBadPlan))) ((fun_mk (st := i_BadPlan) lBadPlan cBadPlan (clsB_kI oBadPlan)).binds fun _ _ _ _ _ _ us hl => match us, hl with | [_, _], _ => rfl),
    mk_of X G aBadMost xBadMost iBadMost oBadMost (ok_BadMost (fun_mk lBadMost cBadMost (clsB_kI oBadMost))) ((fun_mk (st := i_BadMost) lBadMost cBadMost (clsB_kI oBadMost)).binds fun _ _ _ _ _ _ us hl => match us, hl with | [_, _], _ => rfl),
    mk_of X G aBadCount xBadCount iBadCount oBadCount (ok_BadCount (fun_mk lBadCount cBadCount (clsB_kI oBadCount))) ((fun_mk (st := i_BadCount) lBadCount cBadCount (clsB_kI oBadCount)).binds fun _ _ _ _ _ _ us hl => match us, hl with | [_, _], _ => rfl),
    mk_of X G aBadHandover xBadHandover iBadHandover oBadHandover (ok_BadHandover (fun_mk lBadHandover cBadHandover (clsB_kI oBadHandover))) ((fun_mk (st := i_BadHandover) lBadHandover cBadHandover (clsB_kI oBadHandover)).binds fun _ _ _ _ _ _ us hl => match us, hl with | [_, _], _ => rfl),
    mk_of X G aAhead xAhead iAhead oAhead (ok_Ahead (fun_mk lAhead cAhead (clsB_kI oAhead))) ((fun_mk (st := i_Ahead) lAhead cAhead (clsB_kI oAhead)).binds fun _ _ _ _ _ _ us hl => match us, hl with | [_, _], _ => rfl),
    mk_of X G aBadKept xBadKept iBadKept oBadKept (ok_BadKept (fun_mk lBadKept cBadKept (clsB_kI oBadKept))) ((fun_mk (st := i_BadKept) lBadKept cBadKept (clsB_kI oBadKept)).binds fun _ _ _ _ _ _ us hl => match us, hl with | [_, _], _ => rfl),
    mk_of X G aBadDeed xBadDeed iBadDeed oBadDeed (ok_BadDeed (fun_mk lBadDeed cBadDeed (clsB_kI oBadDeed))) ((fun_mk (st := i_BadDeed) lBadDeed cBadDeed (clsB_kI oBadDeed)).binds fun _ _ _ _ _ _ us hl => match us, hl with | [_, _], _ => rfl)⟩
  have kq : Kq K A := kq_of (A := A) kAll oR xR
  have kin : Kin K mg A := kin_of (A := A) (PySem.W.mg_of X G aR) kAll oR oBadName oBadStanding
  have hv := PySem.W.mg_none_of X G z_ValueError
  have c1 := ok_mix (P := l.prog) (w := w) (base := base) T D_mix
  have c2 := ok_draw T c1 D_draw
  exact ok_law T hv kin kq ⟨ok_hand T D_hand, c2, ok_name T c2 D_name, ok_first M D_first, ok_second M D_second, ok_third M D_third, ok_classes T M D_classes, ok_raised T hv M kin D_raised⟩ (fun_mk (st := s_law) l9 c9 k9)
theorem walk {l : PySem.W.OpenLaw} {q : Program} {loose : List Str} {XP : (Str → Option Value) → Heap → Prop} {YP : World → Heap → Prop} {d : DefRec} {K : Params → PySem.W.Frag} (hn : l.most = some 63) (hdf : d.params.defaults = [])
    (hY : ∀ (w : World) (h : Heap), YP w h → (K w.params).In h)
    (F : ∀ (w : World) (mg : Str → Option Value) (fa : Addr) (h : Heap), (K w.params).In h → h.Ns mainGlobals mg → mg d.name = some (.ref fa) →
      ∃ fd : FuncData, (∀ (s : Shared) (u : Value), BindsTo s fd ⟨[u], []⟩ [("_law_script", u)]) ∧ ∀ base : Heap, (K w.params).In base → base.Ns mainGlobals mg → LawAt l.prog w (K w.params) mg base 5 fa fd ["_law_script"] (spLaw (K w.params))) :
    PySem.W.WalkO q loose XP YP l.row.toRowW d [] (fun f vs => PySem.call f vs) :=
  walk_law (n := 63) (k := 5) (x := "_law_script") (sp := fun K => spLaw K) hn (by decide) hdf ⟨rfl, by decide, by decide⟩ hY F fun _ _ a ns hl _ hS => ⟨a, ns, rfl, hS, hl, fun _ => rfl⟩
end K51

open PySem PySem.W PyProof.Rows in
set_option maxRecDepth 100000 in
set_option maxHeartbeats 0 in
theorem PySem.Challenge.cw_goonagain_k51_whole_errors_side_by_side_holds : PySem.Challenge.rw_goonagain_k51_whole_errors_side_by_side.Holds := by
  w_on; o_law; k_head; (case hw => w_witness2)
  k_fill
  refine K51.walk (l := PySem.Challenge.rw_goonagain_k51_whole_errors_side_by_side) rfl rfl (fun w h Y => PySem.W.kIn_of Y) ?F
  case F =>
    intro w mg fa h KX G hmg
    refine' K51.all_mk KX G hmg ?a0 ?l0 ?c0 ?k0 ?a1 ?l1 ?c1 ?k1 ?a2 ?l2 ?c2 ?k2 ?a3 ?l3 ?c3 ?k3 ?a4 ?l4 ?c4 ?k4 ?a5 ?l5 ?c5 ?k5 ?a6 ?l6 ?c6 ?k6 ?a7 ?l7 ?c7 ?k7 ?a8 ?l8 ?c8 ?k8 ?a9 ?l9 ?c9 ?k9 ?z_abs ?z_enumerate ?z_int ?z_isinstance ?z_len ?z_range ?z_tuple ?aR ?aBadText ?xBadText ?iBadText ?lBadText ?cBadText ?oBadText ?aBadName ?xBadName ?iBadName ?lBadName ?cBadName ?oBadName ?aBadAsks ?xBadAsks ?iBadAsks ?lBadAsks ?cBadAsks ?oBadAsks ?aBadTurnName ?xBadTurnName ?iBadTurnName ?lBadTurnName ?cBadTurnName ?oBadTurnName ?aNoTurn ?xNoTurn ?iNoTurn ?lNoTurn ?cNoTurn ?oNoTurn ?aBadCode ?xBadCode ?iBadCode ?lBadCode ?cBadCode ?oBadCode ?aNoKeep ?xNoKeep ?iNoKeep ?lNoKeep ?cNoKeep ?oNoKeep ?aBadListing ?xBadListing ?iBadListing ?lBadListing ?cBadListing ?oBadListing ?aBadJumps ?xBadJumps ?iBadJumps ?lBadJumps ?cBadJumps ?oBadJumps ?aBadKind ?xBadKind ?iBadKind ?lBadKind ?cBadKind ?oBadKind ?aUnfit ?xUnfit ?iUnfit ?lUnfit ?cUnfit ?oUnfit ?aBadStanding ?xBadStanding ?iBadStanding ?lBadStanding ?cBadStanding ?oBadStanding ?aNoCall ?xNoCall ?iNoCall ?lNoCall ?cNoCall ?oNoCall ?aBadPlan ?xBadPlan ?iBadPlan ?lBadPlan ?cBadPlan ?oBadPlan ?aBadMost ?xBadMost ?iBadMost ?lBadMost ?cBadMost ?oBadMost ?aBadCount ?xBadCount ?iBadCount ?lBadCount ?cBadCount ?oBadCount ?aBadHandover ?xBadHandover ?iBadHandover ?lBadHandover ?cBadHandover ?oBadHandover ?aAhead ?xAhead ?iAhead ?lAhead ?cAhead ?oAhead ?aBadKept ?xBadKept ?iBadKept ?lBadKept ?cBadKept ?oBadKept ?aBadDeed ?xBadDeed ?iBadDeed ?lBadDeed ?cBadDeed ?oBadDeed ?oR ?xR ?kAll ?z_ValueError
    (case a0 => k_is)
    (case l0 => k_is)
    (case c0 => k_is)
    (case k0 => k_is)
    (case a1 => k_is)
    (case l1 => k_is)
    (case c1 => k_is)
    (case k1 => k_is)
    (case a2 => k_is)
    (case l2 => k_is)
    (case c2 => k_is)
    (case k2 => k_is)
    (case a3 => k_is)
    (case l3 => k_is)
    (case c3 => k_is)
    (case k3 => k_is)
    (case a4 => k_is)
    (case l4 => k_is)
    (case c4 => k_is)
    (case k4 => k_is)
    (case a5 => k_is)
    (case l5 => k_is)
    (case c5 => k_is)
    (case k5 => k_is)
    (case a6 => k_is)
    (case l6 => k_is)
    (case c6 => k_is)
    (case k6 => k_is)
    (case a7 => k_is)
    (case l7 => k_is)
    (case c7 => k_is)
    (case k7 => k_is)
    (case a8 => k_is)
    (case l8 => k_is)
    (case c8 => k_is)
    (case k8 => k_is)
    (case a9 => k_is)
    (case l9 => k_is)
    (case c9 => k_is)
    (case k9 => k_is)
    (case z_abs => k_is)
    (case z_enumerate => k_is)
    (case z_int => k_is)
    (case z_isinstance => k_is)
    (case z_len => k_is)
    (case z_range => k_is)
    (case z_tuple => k_is)
    (case aR => k_is)
    (case aBadText => k_is)
    (case xBadText => k_is)
    (case iBadText => k_is)
    (case lBadText => k_is)
    (case cBadText => k_is)
    (case oBadText => first | kernel_rfl | rfl)
    (case aBadName => k_is)
    (case xBadName => k_is)
    (case iBadName => k_is)
    (case lBadName => k_is)
    (case cBadName => k_is)
    (case oBadName => first | kernel_rfl | rfl)
    (case aBadAsks => k_is)
    (case xBadAsks => k_is)
    (case iBadAsks => k_is)
    (case lBadAsks => k_is)
    (case cBadAsks => k_is)
    (case oBadAsks => first | kernel_rfl | rfl)
    (case aBadTurnName => k_is)
    (case xBadTurnName => k_is)
    (case iBadTurnName => k_is)
    (case lBadTurnName => k_is)
    (case cBadTurnName => k_is)
    (case oBadTurnName => first | kernel_rfl | rfl)
    (case aNoTurn => k_is)
    (case xNoTurn => k_is)
    (case iNoTurn => k_is)
    (case lNoTurn => k_is)
    (case cNoTurn => k_is)
    (case oNoTurn => first | kernel_rfl | rfl)
    (case aBadCode => k_is)
    (case xBadCode => k_is)
    (case iBadCode => k_is)
    (case lBadCode => k_is)
    (case cBadCode => k_is)
    (case oBadCode => first | kernel_rfl | rfl)
    (case aNoKeep => k_is)
    (case xNoKeep => k_is)
    (case iNoKeep => k_is)
    (case lNoKeep => k_is)
    (case cNoKeep => k_is)
    (case oNoKeep => first | kernel_rfl | rfl)
    (case aBadListing => k_is)
    (case xBadListing => k_is)
    (case iBadListing => k_is)
    (case lBadListing => k_is)
    (case cBadListing => k_is)
    (case oBadListing => first | kernel_rfl | rfl)
    (case aBadJumps => k_is)
    (case xBadJumps => k_is)
    (case iBadJumps => k_is)
    (case lBadJumps => k_is)
    (case cBadJumps => k_is)
    (case oBadJumps => first | kernel_rfl | rfl)
    (case aBadKind => k_is)
    (case xBadKind => k_is)
    (case iBadKind => k_is)
    (case lBadKind => k_is)
    (case cBadKind => k_is)
    (case oBadKind => first | kernel_rfl | rfl)
    (case aUnfit => k_is)
    (case xUnfit => k_is)
    (case iUnfit => k_is)
    (case lUnfit => k_is)
    (case cUnfit => k_is)
    (case oUnfit => first | kernel_rfl | rfl)
    (case aBadStanding => k_is)
    (case xBadStanding => k_is)
    (case iBadStanding => k_is)
    (case lBadStanding => k_is)
    (case cBadStanding => k_is)
    (case oBadStanding => first | kernel_rfl | rfl)
    (case aNoCall => k_is)
    (case xNoCall => k_is)
    (case iNoCall => k_is)
    (case lNoCall => k_is)
    (case cNoCall => k_is)
    (case oNoCall => first | kernel_rfl | rfl)
    (case aBadPlan => k_is)
    (case xBadPlan => k_is)
    (case iBadPlan => k_is)
    (case lBadPlan => k_is)
    (case cBadPlan => k_is)
    (case oBadPlan => first | kernel_rfl | rfl)
    (case aBadMost => k_is)
    (case xBadMost => k_is)
    (case iBadMost => k_is)
    (case lBadMost => k_is)
    (case cBadMost => k_is)
    (case oBadMost => first | kernel_rfl | rfl)
    (case aBadCount => k_is)
    (case xBadCount => k_is)
    (case iBadCount => k_is)
    (case lBadCount => k_is)
    (case cBadCount => k_is)
    (case oBadCount => first | kernel_rfl | rfl)
    (case aBadHandover => k_is)
    (case xBadHandover => k_is)
    (case iBadHandover => k_is)
    (case lBadHandover => k_is)
    (case cBadHandover => k_is)
    (case oBadHandover => first | kernel_rfl | rfl)
    (case aAhead => k_is)
    (case xAhead => k_is)
    (case iAhead => k_is)
    (case lAhead => k_is)
    (case cAhead => k_is)
    (case oAhead => first | kernel_rfl | rfl)
    (case aBadKept => k_is)
    (case xBadKept => k_is)
    (case iBadKept => k_is)
    (case lBadKept => k_is)
    (case cBadKept => k_is)
    (case oBadKept => first | kernel_rfl | rfl)
    (case aBadDeed => k_is)
    (case xBadDeed => k_is)
    (case iBadDeed => k_is)
    (case lBadDeed => k_is)
    (case cBadDeed => k_is)
    (case oBadDeed => first | kernel_rfl | rfl)
    (case oR => first | kernel_rfl | rfl)
    (case xR => first | kernel_rfl | rfl)
    (case kAll => first | kernel_rfl | rfl)
    (case z_ValueError => k_is)
