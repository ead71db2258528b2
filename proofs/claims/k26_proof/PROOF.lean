import PyProof.Rows.All
import Wide.All
import OpenK.AllK
import Wide.FinOn
import HandS.ForMost
import HandS.Codes
import HandS.Wide
import HandS.TupAny
import HandS.Conv
import HandS.RevRange
import HandS.SortInts
import HandS.RaiseMore
import HandS.Style
import HandS.Walk
import HandS.Zip
import HandS.More
import KE.GoesEnum
import KE.GoesMore
import KE.KDictList
import KE.KDictSum
import HandS.IsInst
import HandS.Deep
import KE.GoesZip
import HandS.Exc
import HandS.ExcOwn
import HandS.ExcIs
import HandS.ExcField
import HandS.WordsExc
import KE.OsGo
import Open.SpecLaws
import HandS.TupMul
import PySem.Challenge.RW_goonagain_k26_once_in_the_place_of_keep
set_option Elab.async false
set_option maxRecDepth 100000
set_option maxHeartbeats 4000000
/-! common part: what a call keeps, data, repr, the hand of draws -/
namespace Cm
open PySem L2

/-! ### what is kept but at the lists M -/
structure Kp (M : Addr → Prop) (H H' : Hp) : Prop where
  st : ∀ a o, ¬ M a → H a = some o → H' a = some o
  l1 : ∀ a, M a → ∃ xs, H a = some (.lst xs)
  l2 : ∀ a, M a → ∃ xs, H' a = some (.lst xs)
theorem Kp.trans {M : Addr → Prop} {H H1 H2 : Hp} (a : Kp M H H1) (b : Kp M H1 H2) : Kp M H H2 :=
  ⟨fun x o n e => b.st x o n (a.st x o n e), a.l1, b.l2⟩
theorem Kp.of_same {M : Addr → Prop} {H H' : Hp} (h : ∀ a, M a → ∃ xs, H a = some (.lst xs)) (s : Same H H') : Kp M H H' :=
  ⟨fun x o _ e => s x o e, h, fun a m => let ⟨xs, e⟩ := h a m; ⟨xs, s a _ e⟩⟩
theorem Kp.refl {M : Addr → Prop} {H : Hp} (h : ∀ a, M a → ∃ xs, H a = some (.lst xs)) : Kp M H H := .of_same h (Same.refl H)
theorem same_new {H : Hp} {p : Addr} {o : HO} (h : H p = Option.none) : Same H (upd H p o) := fun b u e => by
  rw [upd_ne (ne_of_none e h)]
  exact e
theorem Kp.new {M : Addr → Prop} {H : Hp} (h : ∀ a, M a → ∃ xs, H a = some (.lst xs)) {p : Addr} {o : HO} (hp : H p = Option.none) : Kp M H (upd H p o) :=
  .of_same h (same_new hp)
theorem Kp.put {M : Addr → Prop} {H : Hp} (h : ∀ a, M a → ∃ xs, H a = some (.lst xs)) {p : Addr} {ys : List V} (hp : M p) : Kp M H (upd H p (.lst ys)) :=
  ⟨fun x o n e => by
    rw [upd_ne (show x ≠ p by rintro rfl; exact n hp)]
    exact e, h, fun a m => by
    by_cases q : a = p
    · subst q
      exact ⟨ys, upd_same⟩
    · rw [upd_ne q]
      exact h a m⟩
theorem Kp.wider {M N : Addr → Prop} {H H' : Hp} (k : Kp M H H') (h : ∀ a, M a → N a) (l : ∀ a, N a → ∃ xs, H a = some (.lst xs)) : Kp N H H' :=
  ⟨fun x o n e => k.st x o (fun m => n (h x m)) e, l, fun a m => by
    by_cases q : M a
    · exact k.l2 a q
    · obtain ⟨xs, e⟩ := l a m
      exact ⟨xs, k.st a _ q e⟩⟩
theorem Kp.tup {M : Addr → Prop} {K : PySem.W.Frag} {H H' : Hp} {a : Addr} {xs : List V} (k : Kp M H H') (h : SqT K H a xs) : SqT K H' a xs := by
  have no : ∀ o, H a = some o → (∀ ys, o ≠ .lst ys) → ¬ M a := fun o e n m => by
    obtain ⟨ys, e2⟩ := k.l1 a m
    rw [e] at e2
    exact n ys (Option.some.inj e2)
  rcases h with (h | ⟨o, h⟩) | h
  · exact .inl (.inl (k.st _ _ (no _ h fun _ z => nomatch z) h))
  · exact .inl (.inr ⟨o, k.st _ _ (no _ h fun _ z => nomatch z) h⟩)
  · exact .inr h
theorem Kp.free {M : Addr → Prop} {H H' : Hp} {p : Addr} (k : Kp M H H') (h : H' p = Option.none) : H p = Option.none := by
  cases e : H p with
  | none => rfl
  | some o =>
    by_cases q : M p
    · obtain ⟨xs, e2⟩ := k.l2 p q
      rw [h] at e2
      cases e2
    · have := k.st p o q e
      rw [h] at this
      cases this
theorem Kp.m_of {M : Addr → Prop} {H H' : Hp} {p : Addr} (k : Kp M H H') (h : H p = Option.none) : ¬ M p := fun m => by
  obtain ⟨xs, e⟩ := k.l1 p m
  rw [h] at e
  cases e

/-! ### data -/
mutual
/-- no list, no dict in it -/
def flatD : PyData → Bool
  | .list _ => false
  | .dict _ => false
  | .tuple xs => flatDs xs
  | _ => true
def flatDs : List PyData → Bool
  | [] => true
  | x :: xs => flatD x && flatDs xs
end
mutual
theorem dp_keep {K : PySem.W.Frag} {H H' : Hp} (k : ∀ a xs, SqT K H a xs → SqT K H' a xs) : ∀ (d : PyData) (v : V), flatD d = true → Dp K H v d → Dp K H' v d
  | .none, _, _, h => by cases h; exact .non
  | .bool _, _, _, h => by cases h; exact .bl _
  | .int _, _, _, h => by cases h; exact .int _
  | .str _, _, _, h => by cases h; exact .str _
  | .list _, _, f, _ => by simp [flatD] at f
  | .dict _, _, f, _ => by simp [flatD] at f
  | .tuple ds, _, f, h => by
    cases h with
    | tup hs ha => exact .tup (k _ _ hs) (dps_keep k ds _ (by simpa [flatD] using f) ha)
theorem dps_keep {K : PySem.W.Frag} {H H' : Hp} (k : ∀ a xs, SqT K H a xs → SqT K H' a xs) : ∀ (ds : List PyData) (vs : List V), flatDs ds = true → DpAll K H vs ds → DpAll K H' vs ds
  | [], _, _, h => by cases h; exact .nil
  | d :: ds, _, f, h => by
    cases h with
    | cons h1 h2 =>
      have f' : flatD d = true ∧ flatDs ds = true := by simpa [flatDs] using f
      exact .cons (dp_keep k d _ f'.1 h1) (dps_keep k ds _ f'.2 h2)
end
mutual
/-- all lists in it are kept as well -/
theorem dp_same {K : PySem.W.Frag} {H H' : Hp} (s : Same H H') : ∀ (d : PyData) (v : V), Dp K H v d → Dp K H' v d
  | .none, _, h => by cases h; exact .non
  | .bool _, _, h => by cases h; exact .bl _
  | .int _, _, h => by cases h; exact .int _
  | .str _, _, h => by cases h; exact .str _
  | .dict _, _, h => by cases h
  | .list ds, _, h => by
    cases h with
    | lst hs ha => exact .lst (s.seq hs) (dps_same s ds _ ha)
  | .tuple ds, _, h => by
    cases h with
    | tup hs ha =>
      refine .tup ?_ (dps_same s ds _ ha)
      rcases hs with (h | ⟨o, h⟩) | h
      · exact .inl (.inl (s _ _ h))
      · exact .inl (.inr ⟨o, s _ _ h⟩)
      · exact .inr h
theorem dps_same {K : PySem.W.Frag} {H H' : Hp} (s : Same H H') : ∀ (ds : List PyData) (vs : List V), DpAll K H vs ds → DpAll K H' vs ds
  | [], _, h => by cases h; exact .nil
  | d :: ds, _, h => by
    cases h with
    | cons h1 h2 => exact .cons (dp_same s d _ h1) (dps_same s ds _ h2)
end
theorem DpAll.len {K : PySem.W.Frag} {H : Hp} : ∀ {vs : List V} {ds : List PyData}, DpAll K H vs ds → vs.length = ds.length
  | _, _, .nil => rfl
  | _, _, .cons _ h => congrArg (· + 1) (DpAll.len h)
theorem DpAll.at {K : PySem.W.Frag} {H : Hp} : ∀ {vs : List V} {ds : List PyData} {i : Nat} {d : PyData}, DpAll K H vs ds → ds[i]? = some d → ∃ v, vs[i]? = some v ∧ Dp K H v d
  | _, _, 0, d, .cons h _, e => by
    simp at e
    subst e
    exact ⟨_, rfl, h⟩
  | _, _, i + 1, d, .cons _ h, e => by
    obtain ⟨v, h1, h2⟩ := DpAll.at (i := i) (d := d) h (by simpa using e)
    exact ⟨v, by simpa using h1, h2⟩
theorem DpAll.atV {K : PySem.W.Frag} {H : Hp} : ∀ {vs : List V} {ds : List PyData} {i : Nat} {v : V}, DpAll K H vs ds → vs[i]? = some v → ∃ d, ds[i]? = some d ∧ Dp K H v d
  | _, _, 0, d, .cons h _, e => by
    simp at e
    subst e
    exact ⟨_, rfl, h⟩
  | _, _, i + 1, d, .cons _ h, e => by
    obtain ⟨v, h1, h2⟩ := DpAll.atV (i := i) (v := d) h (by simpa using e)
    exact ⟨v, by simpa using h1, h2⟩
theorem DpAll.snoc {K : PySem.W.Frag} {H : Hp} {v : V} {d : PyData} (h : Dp K H v d) : ∀ {vs : List V} {ds : List PyData}, DpAll K H vs ds → DpAll K H (vs ++ [v]) (ds ++ [d])
  | _, _, .nil => .cons h .nil
  | _, _, .cons a b => .cons a (DpAll.snoc h b)
theorem DpAll.app {K : PySem.W.Frag} {H : Hp} : ∀ {vs ws : List V} {ds es : List PyData}, DpAll K H vs ds → DpAll K H ws es → DpAll K H (vs ++ ws) (ds ++ es)
  | _, _, _, _, .nil, h => h
  | _, _, _, _, .cons a b, h => .cons a (DpAll.app b h)
theorem DpAll.take {K : PySem.W.Frag} {H : Hp} (n : Nat) : ∀ {vs : List V} {ds : List PyData}, DpAll K H vs ds → DpAll K H (vs.take n) (ds.take n) := by
  induction n with
  | zero => intro vs ds _; exact .nil
  | succ n ih =>
    intro vs ds h
    cases h with
    | nil => exact .nil
    | cons a b => exact .cons a (ih b)
theorem DpAll.drop {K : PySem.W.Frag} {H : Hp} (n : Nat) : ∀ {vs : List V} {ds : List PyData}, DpAll K H vs ds → DpAll K H (vs.drop n) (ds.drop n) := by
  induction n with
  | zero => intro vs ds h; exact h
  | succ n ih =>
    intro vs ds h
    cases h with
    | nil => exact .nil
    | cons a b => exact ih b
theorem DpAll.rev {K : PySem.W.Frag} {H : Hp} : ∀ {vs : List V} {ds : List PyData}, DpAll K H vs ds → DpAll K H vs.reverse ds.reverse
  | _, _, .nil => .nil
  | _, _, .cons a b => by
    rw [List.reverse_cons, List.reverse_cons]
    exact DpAll.snoc a (DpAll.rev b)
theorem dpAll_ints {K : PySem.W.Frag} {H : Hp} : ∀ ns : List Int, DpAll K H (ns.map V.int) (ns.map PyData.int)
  | [] => .nil
  | n :: ns => .cons (.int n) (dpAll_ints ns)

/-! ### repr of data -/
/-- what repr sees at a value: data of lists and tuples, or a dict of int keys whose values are data without lists -/
def Rp (K : PySem.W.Frag) (H : Hp) (x : V) (d : PyData) : Prop :=
  Dp K H x d ∨ ∃ (a : Addr) (kvs : List (Key × V)) (es : List (Int × PyData)), x = .ref a ∧ H a = some (.dK kvs) ∧ kvs.map (·.1) = es.map (fun e => Sum.inl e.1) ∧
    DpAll K H (kvs.map (·.2)) (es.map (·.2)) ∧ flatDs (es.map (·.2)) = true ∧ d = .dict (es.map fun e => (.int e.1, e.2))
mutual
/-- short leaves -/
def okD : PyData → Bool
  | .int i => decide (i.natAbs < 10 ^ 12)
  | .str x => PyData.leavesShort 13 (.str x)
  | .list xs => okDs xs
  | .tuple xs => okDs xs
  | .dict kvs => okDk kvs
  | _ => true
def okDs : List PyData → Bool
  | [] => true
  | x :: xs => okD x && okDs xs
def okDk : List (PyData × PyData) → Bool
  | [] => true
  | (k, v) :: r => okD k && okD v && okDk r
end
mutual
theorem okD_show : ∀ d : PyData, okD d = true → d.showable = true ∧ d.leavesShort 13 = true
  | .none, _ => by constructor <;> first | rfl | decide +kernel | simp [PyData.showable, PyData.leavesShort]
  | .bool b, _ => by cases b <;> constructor <;> first | rfl | decide +kernel
  | .int i, h => by
    have h' : i.natAbs < 10 ^ 12 := by simpa [okD] using h
    refine ⟨?_, ?_⟩
    · have : i.natAbs.log2 < 1920 := by
        by_cases z : i.natAbs = 0
        · rw [z]; decide
        · refine Nat.lt_of_lt_of_le ((Nat.log2_lt z).mpr (show i.natAbs < 2 ^ 64 from Nat.lt_of_lt_of_le h' (by decide))) (by decide)
      simpa [PyData.showable] using this
    · have := PyData.shown_int_le h'
      simpa [PyData.leavesShort] using this
  | .str x, h => by
    exact ⟨by simp [PyData.showable], by simpa only [okD] using h⟩
  | .list xs, h => by
    have := okDs_show xs (by simpa [okD] using h)
    exact ⟨by simpa [PyData.showable] using this.1, by simpa [PyData.leavesShort] using this.2⟩
  | .tuple xs, h => by
    have := okDs_show xs (by simpa [okD] using h)
    exact ⟨by simpa [PyData.showable] using this.1, by simpa [PyData.leavesShort] using this.2⟩
  | .dict kvs, h => by
    have := okDk_show kvs (by simpa [okD] using h)
    exact ⟨by simpa [PyData.showable] using this.1, by simpa [PyData.leavesShort] using this.2⟩
theorem okDs_show : ∀ xs : List PyData, okDs xs = true → PyData.showableAll xs = true ∧ PyData.leavesShortAll 13 xs = true
  | [], _ => ⟨by simp [PyData.showableAll], by simp [PyData.leavesShortAll]⟩
  | x :: xs, h => by
    have h' : okD x = true ∧ okDs xs = true := by simpa [okDs] using h
    have a := okD_show x h'.1
    have b := okDs_show xs h'.2
    exact ⟨by simp [PyData.showableAll, a.1, b.1], by simp [PyData.leavesShortAll, a.2, b.2]⟩
theorem okDk_show : ∀ xs : List (PyData × PyData), okDk xs = true → PyData.showableKv xs = true ∧ PyData.leavesShortKv 13 xs = true
  | [], _ => ⟨by simp [PyData.showableKv], by simp [PyData.leavesShortKv]⟩
  | (k, v) :: xs, h => by
    have h' : (okD k = true ∧ okD v = true) ∧ okDk xs = true := by simpa [okDk] using h
    have a := okD_show k h'.1.1
    have b := okD_show v h'.1.2
    have c := okDk_show xs h'.2
    exact ⟨by simp [PyData.showableKv, a.1, b.1, c.1], by simp [PyData.leavesShortKv, a.2, b.2, c.2]⟩
end
mutual
theorem no_as {h : Heap} : ∀ (d : PyData) (u : Value) (as : List Addr), flatD d = true → Reads h u d as → as = []
  | .none, _, _, _, r => by cases r; rfl
  | .bool _, _, _, _, r => by cases r; rfl
  | .int _, _, _, _, r => by cases r; rfl
  | .str _, _, _, _, r => by cases r; rfl
  | .list _, _, _, f, _ => by simp [flatD] at f
  | .dict _, _, _, f, _ => by simp [flatD] at f
  | .tuple ds, _, _, f, r => by
    cases r with
    | tuple _ _ _ ha => exact no_ass ds _ _ (by simpa [flatD] using f) ha
theorem no_ass {h : Heap} : ∀ (ds : List PyData) (us : List Value) (as : List Addr), flatDs ds = true → ReadsAll h us ds as → as = []
  | [], _, _, _, r => by cases r; rfl
  | d :: ds, _, _, f, r => by
    have f' : flatD d = true ∧ flatDs ds = true := by simpa [flatDs] using f
    cases r with
    | cons r1 r2 => rw [no_as d _ _ f'.1 r1, no_ass ds _ _ f'.2 r2]; rfl
end
mutual
theorem dp_nodict {K : PySem.W.Frag} {H : Hp} : ∀ (d : PyData) (v : V), Dp K H v d → d.hasDict = false
  | .none, _, _ => by simp [PyData.hasDict]
  | .bool _, _, _ => by simp [PyData.hasDict]
  | .int _, _, _ => by simp [PyData.hasDict]
  | .str _, _, _ => by simp [PyData.hasDict]
  | .dict _, _, h => by cases h
  | .list ds, _, h => by
    cases h with
    | lst _ ha => simpa [PyData.hasDict] using dps_nodict ds _ ha
  | .tuple ds, _, h => by
    cases h with
    | tup _ ha => simpa [PyData.hasDict] using dps_nodict ds _ ha
theorem dps_nodict {K : PySem.W.Frag} {H : Hp} : ∀ (ds : List PyData) (vs : List V), DpAll K H vs ds → PyData.hasDictAll ds = false
  | [], _, _ => by simp [PyData.hasDictAll]
  | d :: ds, _, h => by
    cases h with
    | cons h1 h2 => simp [PyData.hasDictAll, dp_nodict d _ h1, dps_nodict ds _ h2]
end
theorem flatDs_ints : ∀ ks : List Int, flatDs (ks.map PyData.int) = true
  | [] => rfl
  | k :: ks => by simp [flatDs, flatD, flatDs_ints ks]
section
variable {X : Cx}
theorem dict_keys {prog : Program} {w : World} {h : Heap} : ∀ (es : List (Int × PyData)) (kvs : List (Key × V)) (l : List DictEntry) (vs : List (Key × Value)), kvs.map (·.1) = es.map (fun e => Sum.inl e.1) → KV kvs vs → Pairs (mixKind prog w) l vs →
    ReadsAll h (l.map (·.key)) (es.map fun e => PyData.int e.1) [] ∧ Vals (kvs.map (·.2)) (l.map (·.val))
  | [], kvs, l, vs, hk, r, p => by
    cases kvs with
    | cons a b => simp at hk
    | nil =>
      cases r
      cases p
      exact ⟨.nil, .nil⟩
  | e :: es, kvs, l, vs, hk, r, p => by
    cases kvs with
    | nil => simp at hk
    | cons a b =>
      simp only [List.map_cons, List.cons.injEq] at hk
      cases r with
      | @cons _ v _ vs' r1 r2 =>
        cases p with
        | @cons en _ l' _ p1 p2 p3 =>
          obtain ⟨q1, q2⟩ := dict_keys es b l' vs' hk.2 r2 p3
          have p1' : keyIs v.1 en.key = true := p1
          rw [← r1.1, hk.1] at p1'
          obtain ⟨t, et⟩ := Value.isInt_shape (k := e.1) (v := en.key) p1'
          refine ⟨?_, .cons ?_ q2⟩
          · rw [List.map_cons, List.map_cons, et]
            exact ReadsAll.cons (as := []) (bs := []) (Reads.int _ _) q1
          · show RelV a.2 en.val
            rw [p2]
            exact r1.2
def rRepr (K : PySem.W.Frag) : List V → Hp → VK → Prop := fun xs H Q => ∃ x d, xs = [x] ∧ Rp K H x d ∧ okD d = true ∧ d.depth ≤ 60 ∧ d.weight ≤ 2 ^ 20 ∧ Q (.str d.shown) H
theorem call_reprD (hg : X.A.guards = some []) (hu : X.A.units + 64 < cLine) : CallR X (.builtin "repr") (rRepr X.K) := by
  intro pins s σ H xs us Q I r h
  obtain ⟨x, d, rfl, hd, ok, hdep, hw, q⟩ := h
  obtain ⟨u, rfl, rx⟩ := vals1 r
  obtain ⟨hsh, hls⟩ := okD_show d ok
  have hsz : d.shown.length ≤ sizeLine := PyData.shown_fits (by decide) (by decide) hls hw
  have fin : ∀ (a : Addr) (as : List Addr), u = .ref a → Reads s.heap u d as → (d.hasDict = true → sysModules ∉ as) → wpAny (model X.prog X.w) X.A (call (.builtin "repr") [u]) (EP X pins σ Q) X.xe s := fun a as e rd no => by
    subst e
    exact repr_of_reads' rd hsh no hg (by omega) (fun _ _ e => e) (fun h' u tk k => ⟨.str _, H, I.kept k, ⟨_, rfl⟩, q⟩) hsz
  rcases hd with hd | ⟨a, kvs, es, rfl, ha, hk, hv, hf, rfl⟩
  · obtain ⟨as, rd⟩ := Dp.reads I d x u hd rx
    cases hd with
    | non => cases rx; exact P.repr_of_none ⟨.str _, H, I.tok _, ⟨_, rfl⟩, q⟩
    | bl b => cases rx; exact P.repr_of_bool ⟨.str _, H, I.tok _, ⟨_, rfl⟩, by cases b <;> exact q⟩
    | int i =>
      obtain ⟨t, rfl⟩ := rx
      exact P.repr_of_int (by simpa [PyData.showable] using hsh) ⟨.str _, H, I.tok _, ⟨_, rfl⟩, by simpa [PyData.shown] using q⟩
    | str z =>
      obtain ⟨t, rfl⟩ := rx
      exact P.repr_of_str ⟨.str _, H, I.tok _, ⟨_, rfl⟩, by simpa [PyData.shown] using q⟩ (by simpa [PyData.shown] using hsz)
    | lst hs ha =>
      have nd := dp_nodict _ _ (Dp.lst hs ha)
      cases rx
      exact fin _ as rfl rd fun z => by rw [nd] at z; cases z
    | tup hs ha =>
      have nd := dp_nodict _ _ (Dp.tup hs ha)
      cases rx
      exact fin _ as rfl rd fun z => by rw [nd] at z; cases z
  · cases rx
    obtain ⟨_, hsys, vs, rv, ob, dl, ep, e1, e2, e3, _, e5, _⟩ := (show kvs.length ≤ sizeLine ∧ (a == sysModules) = false ∧ ∃ vs, KV kvs vs ∧ s.heap.DictOf (mixKind X.prog X.w) a vs from dk_of I.hok ha)
    obtain ⟨q1, q2⟩ := dict_keys es kvs dl.toList vs hk rv e5
    obtain ⟨bs, q3⟩ := Dp.readsAll I _ _ _ hv q2
    obtain rfl := no_ass _ _ _ hf q3
    have rd : Reads s.heap (.ref a) (.dict (es.map fun e => (PyData.int e.1, e.2))) (a :: [] ++ []) :=
      .dict e1 e2.1 e3 (by rw [List.map_map]; exact q1) (by rw [List.map_map]; exact q3)
    exact fin a _ rfl rd fun _ m => by
      have : sysModules = a := by simpa using m
      rw [← this] at hsys
      simp at hsys
end
end Cm

/-! a law's call whose body may ask repr: nothing is under repr there -/
namespace Cm
open PySem L2 PySem.Spec PyProof.Rows
section
variable {P : Program} {w : World} {K : PySem.W.Frag} {mg : Str → Option Value} {base : Heap}
/-- the promise of the law's def, where no repr is under way -/
def LawAt (P : Program) (w : World) (K : PySem.W.Frag) (mg : Str → Option Value) (base : Heap) (k : Nat) (f : Addr) (fd : FuncData) (ps : List Str) (sp : Sp) : Prop :=
  ∀ (A : Around) (outer : List Env) (s : Shared) (H : Hp) (args : Args) (us : List Value) (vs : List V) (Q : VK) (E : XK),
    A.guards = some [] → Room k A → Env0 P w K mg base A outer s H → BindsTo s fd args (ps.zip us) → Vals vs us → sp vs H Q E →
      codeAny (model P w) A (.call (.ref f) args) (CR CX0 outer P w H s Q E) s
theorem lawAt_of {x : Str} {st : Stmt} {f : Addr} {fd : FuncData} {N ps : List Str} {k : Nat} {sp : Sp} (F : Fun K x x st f fd) (S : FnScope N ps (defScope st))
    (len : ∀ vs H Q E, sp vs H Q E → vs.length = ps.length)
    (hb : ∀ (cdv : Value) (A : Around) (outer : List Env) (s : Shared) (H : Hp) (vs : List V) (Q : VK) (E : XK), A.guards = some [] →
      Room k (A.deeper (envOfC x (defScope st) s.heap.objs.size f cdv)) → sp vs H Q E →
      ∃ t, PSs (cxOf CX0 P w K mg base N x (defScope st) f cdv A outer s H E).nox (defBody st) t ∧ t { nx := fun _ H' => Q .non H', rt := Q } (start N vs) H) :
    LawAt P w K mg base (k + 1) f fd ps sp := by
  intro A outer s H args us vs Q E hg hr e0 hbind rv hs
  obtain ⟨oc, od, kV, doc, pm, an, cdv, ct, osl, rfl, lk, hcd⟩ := F.ex
  have keeps : ∀ b o, base.get? b = some o → s.heap.get? b = some o := fun b o e => (e0.bs b o e).1
  have KX : K.In s.heap := e0.mod.kin.keeps keeps
  refine codeAny_call_function hr.depth (KX _ _ lk) rfl S.co S.gen rfl (PySem.W.codeRec_of KX hcd) (hbind _ _ _ _ ?_)
  refine wpAny_newFunctionEnv_cells S.kind (fun z hz => ?_) fun env he s1 xc => ?_
  · rcases S.par z.1 (List.of_mem_zip (show (z.1, z.2) ∈ ps.zip us from hz)).1 with q | q
    · exact Or.inl q
    · exact Or.inr ⟨q, PySem.W.cellsFrom_some _ _ _ (Or.inl q)⟩
  · subst he
    refine ⟨(e0.mod.nolimit.keeps keeps).keeps xc.toInCall.keep, codeAny_func ?_⟩
    obtain ⟨t, ht, hq⟩ := hb cdv A outer s H vs Q E hg (hr.deeper _) hs
    have I := inv_start (E := E) (CX := CX0) S hr.hd e0 (len _ _ _ _ hs) rv xc
    refine wpAny_mono (ht.nox.run [] s1 (start N vs) H _ I hq) (fun fl s' hz => ?_) fun e s' hz => hz
    cases fl with
    | ret u =>
      obtain ⟨v, _, H', J, r, q⟩ := hz
      exact ⟨v, H', J.os, J.bare, J.base, J.hok, r, q⟩
    | next =>
      obtain ⟨_, H', J, q⟩ := hz
      exact ⟨V.non, H', J.os, J.bare, J.base, J.hok, rfl, q⟩
    | brk =>
      obtain ⟨_, _, _, q⟩ := hz
      exact q.elim
    | cont =>
      obtain ⟨_, _, _, q⟩ := hz
      exact q.elim
end
/-- the script tracked at a: known to the object, or one of the module's own -/
def scriptH (a : Addr) (o : Obj) (ns : List Int) : Hp := fun b => if b = a then some (.frz o (.lst (ns.map V.int))) else Option.none
theorem law_goes {P : Program} {w : World} {K : PySem.W.Frag} {mg mb : Str → Option Value} {k : Nat} {fa a : Addr} {fd : FuncData} {x : Str} {sp : Sp} {s₁ : Shared} {vs : List Value} {ns : List Int}
    (KX : K.In s₁.heap) (hns : s₁.heap.Ns mainGlobals mg) (hb : s₁.heap.Ns builtinsNs mb)
    (hbb : ∀ x : Str, x ≠ "__name__" → mb x = bootBuiltins x) (hlim : s₁.heap.NoLimit) (hg : s₁.gens = #[])
    (ha : s₁.heap.get? a = some { cls := .type "list", data := .seq vs.toArray }) (hi : IntsAre vs ns) (hl : ns.length ≤ sizeLine) (hr : Room k callerA)
    (F : ∀ b : Heap, K.In b → b.Ns mainGlobals mg → LawAt P w K mg b k fa fd [x] sp)
    (hbind : ∀ (s : Shared) (u : Value), BindsTo s fd ⟨[u], []⟩ [(x, u)])
    (hsp : ∀ H : Hp, Only H → SqL K H a (ns.map V.int) → sp [.ref a] H (fun v _ => v = .bl true) fun _ _ _ => False) :
    codeAny (model P w) callerA (.call (.ref fa) ⟨[.ref a], []⟩)
      (fun r s' => r = .ok (.ret (.bool true)) ∧ OldK s₁.heap s'.heap ∧ s'.os = s₁.os ∧ AllBare s'.gens) s₁ := by
  have rv := vals_ints hi
  have main : ∀ H : Hp, Only H → SqL K H a (ns.map V.int) → HOk P w H s₁.heap → (∀ b, H b ≠ Option.none → b = a ∧ K.lookup a = Option.none) →
      codeAny (model P w) callerA (.call (.ref fa) ⟨[.ref a], []⟩)
        (fun r s' => r = .ok (.ret (.bool true)) ∧ OldK s₁.heap s'.heap ∧ s'.os = s₁.os ∧ AllBare s'.gens) s₁ := by
    intro H hO hS hok hA
    have free_ns : ∀ {b : Addr} {o : Obj} {es : Array DictEntry} {ep : Nat}, s₁.heap.get? b = some o → o.data = .dict es ep → H b = Option.none := fun {b o es ep} e d => by
      by_cases q : H b = Option.none
      · exact q
      · obtain ⟨rfl, _⟩ := hA b q
        rw [ha] at e
        cases e
        cases d
    have ns_of : ∀ {b : Addr} {m : Str → Option Value}, s₁.heap.Ns b m → (hidT s₁.heap H).Ns b m := fun h => by
      obtain ⟨o, es, ep, e, d, r⟩ := h
      exact ⟨o, es, ep, hidT_get e (free_ns e d), d, r⟩
    have kin : K.In (hidT s₁.heap H) := fun b o e => hidT_get (KX b o e) (by
      by_cases q : H b = Option.none
      · exact q
      · obtain ⟨rfl, q2⟩ := hA b q
        rw [q2] at e
        cases e)
    obtain ⟨mc, l1, l2⟩ := hlim
    have e0 : Env0 P w K mg (hidT s₁.heap H) callerA [] s₁ H :=
      { frames := rfl, mod := ⟨kin, ns_of hns, ⟨mb, ns_of hb, hbb⟩, ⟨mc, ns_of l1, l2⟩⟩, bs := fun b o e => of_hidT e, bsz := Nat.le_of_eq (hidT_size _ _),
        funs := trivial, frf := fun b z => absurd (show b ∈ ([] : List Addr) from z) (by simp), hok := hok, bare := .of_eq hg }
    have run := F _ kin (ns_of hns) callerA [] s₁ H ⟨[.ref a], []⟩ [.ref a] [.ref a] _ _ rfl hr e0 (hbind s₁ (.ref a)) (.cons rfl .nil) (hsp H hO hS)
    refine codeAny_mono run fun r s' h => ?_
    rcases r with e | fl
    · exact False.elim h
    · cases fl with
      | ret u =>
        obtain ⟨v, H', os, bare, un, hok', r', q⟩ := h
        have q' : v = .bl true := q
        subst q'
        have eu : u = Value.bool true := r'
        subst eu
        refine ⟨rfl, OldK.of_keep fun b o e => ?_, os, bare⟩
        by_cases q : H b = Option.none
        · exact un.keep b o e q (fun z => absurd (show b ∈ ([] : List Addr) from z) (by simp)) (by simp)
        · rcases hO b with z | ⟨ob, xs, z⟩
          · exact absurd z q
          · have e1 := (hok b _ z).1
            have e2 := (hok' b _ (un.frzs b ob _ z)).1
            rw [e] at e1
            cases e1
            exact e2
      | next => exact False.elim h
      | brk => exact False.elim h
      | cont => exact False.elim h
  by_cases hk : K.lookup a = Option.none
  · refine main (scriptH a { cls := .type "list", data := .seq vs.toArray } ns) (fun b => ?_) (.inl (.inr ⟨_, if_pos rfl⟩)) (fun b u z => ?_) fun b z => ?_
    · by_cases q : b = a
      · exact .inr ⟨_, _, if_pos q⟩
      · exact .inl (if_neg q)
    · unfold scriptH at z
      by_cases q : b = a
      · rw [if_pos q] at z
        cases z
        subst q
        exact ⟨ha, by rw [List.length_map]; exact hl, vs, _, rv, ha⟩
      · rw [if_neg q] at z
        cases z
    · by_cases q : b = a
      · exact ⟨q, hk⟩
      · exact absurd (if_neg q) z
  · obtain ⟨o, ho⟩ : ∃ o, K.lookup a = some o := by
      cases e : K.lookup a with
      | none => exact absurd e hk
      | some o => exact ⟨o, rfl⟩
    have e := KX a o ho
    rw [ha] at e
    cases e
    refine main (fun _ => Option.none) (fun _ => .inl rfl) ?_ (fun b u z => by cases z) fun b z => absurd rfl z
    exact .inr ⟨_, vs.toArray, _, ho, rfl, rfl, rfl, by rw [List.size_toArray, hi.length]; exact hl, by simpa using rv⟩
theorem walk_law {l : PySem.W.OpenLaw} {n k : Nat} {q : Program} {loose : List Str} {XP : (Str → Option Value) → Heap → Prop} {YP : World → Heap → Prop} {d : DefRec} {K : Params → PySem.W.Frag} {sp : PySem.W.Frag → Sp} {x : Str}
    (hn : l.most = some n) (hn2 : n ≤ sizeLine) (hdf : d.params.defaults = []) (hr : Room k callerA)
    (hY : ∀ (w : World) (h : Heap), YP w h → (K w.params).In h)
    (F : ∀ (w : World) (mg : Str → Option Value) (fa : Addr) (h : Heap), (K w.params).In h → h.Ns mainGlobals mg → mg d.name = some (.ref fa) →
      ∃ fd : FuncData, (∀ (s : Shared) (u : Value), BindsTo s fd ⟨[u], []⟩ [(x, u)]) ∧
        ∀ b : Heap, (K w.params).In b → b.Ns mainGlobals mg → LawAt l.prog w (K w.params) mg b k fa fd [x] (sp (K w.params)))
    (hsp : ∀ (K : PySem.W.Frag) (H : Hp) (a : Addr) (ns : List Int), ns.length ≤ n → Only H → SqL K H a (ns.map V.int) → sp K [.ref a] H (fun v _ => v = .bl true) fun _ _ _ => False) :
    PySem.W.WalkO q loose XP YP l.row.toRowW d [] (fun f vs => PySem.call f vs) := by
  refine Att.attach_call hn hdf fun w s₀ s₁ mg mb fa o pm cd doc a vs ns G Y ho hd hcd hmg hobj hints hlen hg => ?_
  obtain ⟨fd, hb, hF⟩ := F w mg fa _ (hY w _ Y) G.T.g hmg
  exact law_goes (hY w _ Y) G.T.g G.T.b G.T.builtins G.T.nolimit hg hobj hints (Nat.le_trans hlen hn2) hr hF hb fun H hO hS => hsp _ H a ns hlen hO hS
end Cm

/-! defs that are called by name; the hand of draws -/
namespace Cm
open PySem L2 PySem.Spec PyProof.Rows
structure Cl (P : Program) (w : World) (K : PySem.W.Frag) (mg : Str → Option Value) (base : Heap) (k : Nat) (x : Str) (sp : Sp) : Prop where
  ex : ∃ (f : Addr) (fd : FuncData) (ps : List Str), FnOk P w K mg base CX0 k f fd ps sp ∧ mg x = some (.ref f) ∧ PySem.W.keepIn K (.ref f) = true ∧ Binds K fd ps []
/-- where a def of the text stands -/
structure At (K : PySem.W.Frag) (mg : Str → Option Value) (x : Str) (st : Stmt) (ps : List Str) : Prop where
  ex : ∃ (f : Addr) (fd : FuncData), Fun K x x st f fd ∧ mg x = some (.ref f) ∧ Binds K fd ps []
section
variable {P : Program} {w : World} {K : PySem.W.Frag} {mg : Str → Option Value} {base : Heap}
theorem cl_of {x : Str} {st : Stmt} {N ps : List Str} {k : Nat} {sp : Sp} (T : At K mg x st ps) (S : FnScope N ps (defScope st))
    (len : ∀ vs H Q E, sp vs H Q E → vs.length = ps.length)
    (hb : ∀ (f : Addr) (cdv : Value) (A : Around) (outer : List Env) (s : Shared) (H : Hp) (vs : List V) (Q : VK) (E : XK),
      Room k (A.deeper (envOfC x (defScope st) s.heap.objs.size f cdv)) → sp vs H Q E →
      ∃ t, PSs (cxOf CX0 P w K mg base N x (defScope st) f cdv A outer s H E).nox (defBody st) t ∧ t { nx := fun _ H' => Q .non H', rt := Q } (start N vs) H) :
    Cl P w K mg base (k + 1) x sp := by
  obtain ⟨f, fd, F, hm, b⟩ := T.ex
  exact ⟨f, fd, ps, F.ok S len (hb f), hm, F.kp, b⟩
end
section
variable {X : Cx} {j k : Nat} {x : Str} {sp : Sp} {e : Expr} {es : List Expr} {t : TA} {p pos : Pos}
theorem pe_c (c : Cl X.prog X.w X.K X.mg X.base k x sp) (hr : Room j X.A) (hk : k ≤ j) (hg : Gl X x) (ha : PA X (e :: es) t)
    (hdb : (x == ("__debug__" : Str)) = false := by decide) (he : starEach (e :: es) X.env = (false, eval e X.env) :: starEach es X.env := by rfl)
    (hpl : (backTo pos (starEach es X.env)).any (·.1) = false := by rfl) : PE X (.Call (.Name x p) (e :: es) [] pos) (tCall sp [] E0 t) := by
  obtain ⟨f, fd, ps, F, hm, kp, b⟩ := c.ex
  exact pe_call F (hr.mono hk) hg hm kp b .nil pass0 ha hdb he hpl
end

theorem map_at {α β : Type} {f : α → β} {xs : List α} {i : Nat} {y : β} (h : (xs.map f)[i]? = some y) : ∃ x, xs[i]? = some x ∧ y = f x := by
  rw [List.getElem?_map] at h
  obtain ⟨x, a, b⟩ := Option.map_eq_some_iff.mp h
  exact ⟨x, a, b.symm⟩

/-! ### a word between a statement and what follows it -/
def tMid (t u : TS) : TS := fun D σ H => ∃ M : L2.St → Hp → Prop, t { D with nx := M } σ H ∧ ∀ σ' H', M σ' H' → u D σ' H'
theorem pss_mid {X : Cx} {st : Stmt} {rest : List Stmt} {t u : TS} (h1 : PS X st t) (h2 : PSs X rest u) : PSs X (st :: rest) (tMid t u) :=
  ⟨fun pins s σ H D I h => by
    obtain ⟨M, hm, hu⟩ := h
    refine wpAny_execs_cons (thn (h1.run pins s σ H { D with nx := M } I hm) fun fl s1 q => ?_)
    cases fl with
    | next =>
      obtain ⟨σ', H', I', q⟩ := q
      exact h2.run pins s1 σ' H' D I' (hu σ' H' q)
    | ret v => exact q
    | brk => exact q
    | cont => exact q⟩

/-! ### the hand of draws -/
/-- a hand stands at h: the cells, how many were taken, a great cell that is drawn from, a sum -/
def Hand (H : Hp) (h c : Addr) : Prop := ∃ (cells : List Int) (i b t : Int), H h = some (.lst [.ref c, .int i, .int b, .int t]) ∧ H c = some (.lst (cells.map V.int)) ∧ c ≠ h ∧ 0 ≤ i ∧ cells.length ≤ 63
theorem Hand.lst {H : Hp} {h c : Addr} (x : Hand H h c) : ∃ xs, H h = some (.lst xs) := let ⟨_, _, _, _, e, _⟩ := x; ⟨_, e⟩
theorem Hand.same {H H' : Hp} {h c : Addr} (x : Hand H h c) (s : Same H H') : Hand H' h c := by
  obtain ⟨cells, i, b, t, e1, e2, n, z⟩ := x
  exact ⟨cells, i, b, t, s _ _ e1, s _ _ e2, n, z⟩
/-- the hand alone is changed -/
abbrev Kh (h : Addr) : Hp → Hp → Prop := Kp (fun a => a = h)
theorem Hand.kh {H H' : Hp} {h c : Addr} (x : Hand H h c) (s : Same H H') : Kh h H H' := .of_same (fun a m => by subst m; exact x.lst) s
theorem Hand.kr {H : Hp} {h c : Addr} (x : Hand H h c) : Kh h H H := x.kh (Same.refl H)

def spMix : Sp := fun vs H Q _ => ∃ a b : Int, vs = [.int a, .int b] ∧ ∀ n : Int, Q (.int n) H
def spHand (K : PySem.W.Frag) : Sp := fun vs H Q _ => ∃ (a : Addr) (ns : List Int), vs = [.ref a] ∧ SqL K H a (ns.map V.int) ∧ ns.length ≤ 63 ∧ ∀ h c H', Same H H' → H h = Option.none → H c = Option.none → Hand H' h c → Q (.ref h) H'
def spDraw : Sp := fun vs H Q _ => ∃ (h c : Addr) (m : Int), vs = [.ref h, .int m] ∧ Hand H h c ∧ 0 < m ∧ m < 2 ^ 100 ∧ ∀ (n : Int) (H' : Hp), 0 ≤ n → n < m → Kh h H H' → Hand H' h c → Q (.int n) H'
/-- pick out of a list or tuple -/
def spPick (K : PySem.W.Frag) : Sp := fun vs H Q _ => ∃ (h c a : Addr) (xs : List V), vs = [.ref h, .ref a] ∧ Hand H h c ∧ (SqL K H a xs ∧ a ≠ h ∨ SqT K H a xs) ∧ xs ≠ [] ∧ xs.length ≤ 1000 ∧
  ∀ (v : V) (H' : Hp), v ∈ xs → Kh h H H' → Hand H' h c → Q v H'
end Cm

/-! further rules: a tuple read backwards, enumerate over a tuple, sorted(d.keys()) -/
namespace Cm
open PySem L2 PySem.Spec PyProof.Rows
section
variable {prog : Program} {w : World} {A : Around} {E : Value → Shared → Prop} {s : Shared}
theorem adjust_back (n : Nat) : Builtin.Slice.sliceAdjust none none (-1) (n : Int) = ((n : Int) - 1, -1) := by
  unfold Builtin.Slice.sliceAdjust
  simp
theorem places_back (n : Nat) : Builtin.Slice.slicePlaces ((n : Int) - 1) (-1) (-1) = n := by
  unfold Builtin.Slice.slicePlaces
  simp
  try omega
theorem applied_back {sl : Addr} {vs : Value} {n : Nat} {Q : Int × Int × Nat → Shared → Prop} (hs : s.heap.IsSliceOf sl .none .none vs) (ps : IsPart vs (some (-1)))
    (h : Q ((n : Int) - 1, -1, n) s) : wpAny (model prog w) A (Builtin.Slice.sliceApplied (.ref sl) (pure (n : Int))) Q E s := by
  obtain ⟨os, hos, hcs, hds⟩ := id hs
  unfold Builtin.Slice.sliceApplied Builtin.Slice.sliceFields
  refine wpAny_bind (wpAny_bind (wpAny_field hos hds (x := .none) rfl (wpAny_bind (wpAny_field hos hds (x := .none) rfl (wpAny_bind (wpAny_field hos hds (x := vs) rfl (wpAny_pure ?_)))))))
  refine wpAny_bind (HT.slicePart_ ps ?_)
  show wpAny _ _ (if ((-1 : Int) == 0) = true then _ else _) _ _ s
  rw [if_neg (by decide)]
  refine wpAny_bind (slicePart_none (wpAny_bind (slicePart_none (wpAny_bind (wpAny_pure ?_)))))
  show wpAny _ _ (match Builtin.Slice.sliceAdjust none none (-1) (n : Int) with | (lo, hi) => pure (lo, (-1 : Int), Builtin.Slice.slicePlaces lo hi (-1))) _ _ s
  rw [adjust_back]
  show wpAny _ _ (pure ((n : Int) - 1, (-1 : Int), Builtin.Slice.slicePlaces ((n : Int) - 1) (-1) (-1))) _ _ s
  rw [places_back]
  exact wpAny_pure h
theorem filterMap_eqs {α β : Type} {f g : α → Option β} : ∀ l : List α, (∀ x ∈ l, f x = g x) → l.filterMap f = l.filterMap g
  | [], _ => rfl
  | x :: l, h => by
    rw [List.filterMap_cons, List.filterMap_cons, h x List.mem_cons_self, filterMap_eqs l fun y hy => h y (List.mem_cons_of_mem _ hy)]
theorem pick_all (m : List Value) : (List.range m.length).filterMap (fun k => m[k]?) = m := by
  induction m with
  | nil => rfl
  | cons a m ih =>
    rw [List.length_cons, List.range_succ_eq_map, List.filterMap_cons]
    simp only [List.getElem?_cons_zero, List.filterMap_map]
    refine congrArg _ (Eq.trans (filterMap_eqs _ fun k _ => ?_) ih)
    simp
theorem pick_back (xs : Array Value) : ((List.range xs.size).filterMap fun (k : Nat) => xs[((xs.size : Int) - 1 + (k : Int) * -1).toNat]?).toArray = xs.toList.reverse.toArray := by
  have h1 : (List.range xs.size).filterMap (fun (k : Nat) => xs[((xs.size : Int) - 1 + (k : Int) * -1).toNat]?) = (List.range xs.size).filterMap (fun k => xs.toList.reverse[k]?) := by
    refine filterMap_eqs _ fun k hk => ?_
    have hk' : k < xs.size := List.mem_range.mp hk
    have e2 : ((xs.size : Int) - 1 + (k : Int) * -1).toNat = xs.size - 1 - k := by omega
    rw [e2, List.getElem?_reverse (by simpa using hk'), Array.getElem?_toList]
    simp
  have h3 := pick_all xs.toList.reverse
  rw [List.length_reverse, Array.length_toList] at h3
  rw [h1, h3]
theorem getItem_tuple_back {t sl : Addr} {items : Array Value} {vs : Value} {Q : Value → Shared → Prop} (ht : IsTup s.heap t items) (hs : s.heap.IsSliceOf sl .none .none vs) (ps : IsPart vs (some (-1)))
    (h : Q (.ref s.heap.objs.size) { s with heap := s.heap.push { cls := .type "tuple", data := .seq items.toList.reverse.toArray } })
    (hsz : items.size ≤ sizeLine) : wpAny (model prog w) A (getItem (.ref t) (.ref sl)) Q E s := by
  have hok : sizeOk (.seq items.toList.reverse.toArray) := by
    show items.toList.reverse.toArray.size ≤ sizeLine
    rw [List.size_toArray, List.length_reverse, Array.length_toList]
    exact hsz
  obtain ⟨os, hos, hcs, hds⟩ := id hs
  have hTs : s.TypeIs (.ref sl) "slice" := ⟨os, hos, hcs⟩
  unfold getItem
  try with_reducible refine wpAny_holding ?_
  first | refine wpAny_bind (wpAny_pure ?_) | skip
  refine wpAny_bind (wpAny_sequenceKey ht.typeIs (by decide) ?_)
  refine wpAny_bind (wpAny_callSpecial?_slot (name := Str.ofString "__getitem__") ht.typeIs slot_tuple_getitem (wpAny_call_entry slot_tuple_getitem ht.typeIs PyProof.Rows.entry_tuple_getitem ?_ (PyProof.Rows.args_tuple_getitem _ _)))
  show wpAny _ _ (Builtin.Tuple.tupleItemsOf (.ref t) >>= _) _ _ s
  refine wpAny_bind (tupleItemsOf_ ht (wpAny_bind (wpAny_typeOf hTs ?_)))
  rw [if_pos (by decide)]
  refine wpAny_bind (applied_back (n := items.size) hs ps ?_)
  show wpAny _ _ (if ((((items.size : Int) - 1) == 0 && (-1 : Int) == 1 && items.size == items.size) = true) then _ else _) _ _ s
  rw [if_neg (by simp), pick_back]
  first
    | exact wpAny_bind (m := Builtin.Tuple.tupleExact _) (wpAny_newObj_type (wpAny_pure ⟨_, rfl, wpAny_pure h⟩) hok)
    | exact wpAny_bind (m := Builtin.Tuple.tupleExact _) (wpAny_newObj_type (wpAny_bind (wpAny_pure (wpAny_pure ⟨_, rfl, wpAny_pure h⟩))) hok)
end
section
variable {X : Cx}
def tRevT (K : PySem.W.Frag) (te : TE) : TE := fun σ H Q => te σ H fun x H1 => ∃ a xs, x = .ref a ∧ SqT K H1 a xs ∧ ∀ p, H1 p = Option.none → Q (.ref p) (upd H1 p (.tup xs.reverse))
theorem pe_revT {e : Expr} {te : TE} {k : Nat} {p1 p2 p3 pos : Pos} (he : PE X e te) : PE X (.Subscript e (.Slice none none (some (.UnaryOp .USub (.Constant (.int 1) k p1) p2)) p3) pos) (tRevT X.K te) := by
  refine ⟨fun pins s σ H Q I h => ?_⟩
  refine Subscript_ (thn (he.run pins s σ H _ I h) fun v s1 hz => ?_)
  obtain ⟨x, H1, I1, r1, a, xs, ex, hx, q⟩ := hz
  subst ex
  cases r1
  have hst : PO X (some (.UnaryOp .USub (.Constant (.int 1) k p1) p2)) (tPart (tUn (rU fun i => .int (-i)) (tC (.int 1)))) := po_some (pe_un un_neg pe_int)
  refine wpAny_Slice (thn (po_none.run pins s1 σ H1 (fun o H2 => o = none ∧ H2 = H1) I1 ⟨rfl, rfl⟩) fun vl s2 hz => ?_)
  obtain ⟨l, H2, I2, pl, el, e2⟩ := hz
  subst el e2
  refine thn (po_none.run pins s2 σ H2 (fun o H3 => o = none ∧ H3 = H2) I2 ⟨rfl, rfl⟩) fun vu s3 hz => ?_
  obtain ⟨u, H3, I3, pu, eu, e3⟩ := hz
  subst eu e3
  refine thn (hst.run pins s3 σ H3 (fun o H4 => o = some (-1) ∧ H4 = H3) I3 ⟨1, rfl, -1, rfl, rfl, rfl⟩) fun vs s4 hz => ?_
  obtain ⟨o, H4, I4, ps, eo, e4⟩ := hz
  subst eo e4
  cases pl
  cases pu
  have I5 : Inv X pins σ H4 { s4 with heap := s4.heap.push { cls := .type "slice", data := .fields #[.none, .none, vs] } } := I4.kept (t' := s4.toks) fun b ob q => Heap.get?_push_of_some _ q
  obtain ⟨its, r, ht, hz⟩ := I5.tuple hx
  have hlen := r.length
  show wpAny (model X.prog X.w) X.A (subscriptTail e (.Slice none none (some (.UnaryOp .USub (.Constant (.int 1) k p1) p2)) p3) (.ref a) (.ref s4.heap.objs.size)) (EP X pins σ Q) X.xe
    { s4 with heap := s4.heap.push { cls := .type "slice", data := .fields #[.none, .none, vs] } }
  refine tail_any (ops := [.ref a, .ref s4.heap.objs.size]) ht.typeIs slot_tuple_getitem.lookup ?_ (by with_unfolding_all rfl)
  refine getItem_tuple_back ht (Heap.IsSliceOf.new _ .none .none vs) ps ?_ (by rw [List.size_toArray]; omega)
  refine ⟨.ref _, _, I5.laid (t' := s4.toks) (o := .tup xs.reverse) (fun b ob q => Heap.get?_push_of_some _ q) (Nat.le_refl _) ?_, rfl, q _ (I5.hok.fresh (Nat.le_refl _))⟩
  exact ⟨by rw [List.length_reverse]; exact hz, its.reverse, r.reverse, IsTup.new _ _⟩
end

/-! ### enumerate over a tuple -/
theorem enum_new1 {v : Value} {o : Obj} {G : Heap → Prop} (B : Begins v o G) :
    Meets (Builtin.«enumerate.__new__» ⟨[.type "enumerate", v], []⟩) (fun _ R s => G s.heap ∧
      R (.ok (.ret (.ref (s.heap.push o).objs.size))) { s with heap := (s.heap.push o).push { cls := .type "enumerate", data := .fields #[.none, .bool false, .ref s.heap.objs.size, rawInt 0, .none, .none] } }) :=
  .of_wp fun prog w A R s h => by
    obtain ⟨hp, g, d, tk, os⟩ := s
    obtain ⟨h1, h2⟩ := h
    have hsub := sub_enumerate
    have it : ∀ {A' : Around} {E : Value → Shared → Prop} {Q : Value → Shared → Prop}, Q (.ref hp.objs.size) ⟨hp.push o, g, d, tk, os⟩ → wpAny (model prog w) A' (pyIter v) Q E ⟨hp, g, d, tk, os⟩ :=
      fun q => B.iter prog w _ _ ⟨hp, g, d, tk, os⟩ _ h1 q
    wp_walk using it
    refine wpAny_stack_any fun st => wpAny_pure ?_
    split
    · rename_i c _ _ _ _ _
      cases (c == Value.type "enumerate") <;> (wp_walk using it; exact ⟨_, rfl, h2⟩)
    · wp_walk using it
      exact ⟨_, rfl, h2⟩
section
variable {prog : Program} {w : World} {A : Around} {E : Value → Shared → Prop} {s : Shared}
theorem call_enum1 {v : Value} {o : Obj} {G : Heap → Prop} {Q : Value → Shared → Prop} (B : Begins v o G) (h1 : G s.heap)
    (h : ∀ h', IsEnum h' (s.heap.objs.size + 1) s.heap.objs.size 0 .none → h'.get? s.heap.objs.size = some o → h'.objs.size = s.heap.objs.size + 2 →
      (∀ b o, s.heap.get? b = some o → h'.get? b = some o) → Q (.ref (s.heap.objs.size + 1)) { s with heap := h' }) :
    wpAny (model prog w) A (call (.type "enumerate") [v]) Q E s := by
  refine callType_new F.called_enumerate (by decide) (F.typeCall_enumerate_1 _) (F.newCall_enumerate_1 _) (fun obj => F.args_object_init_2 obj _) F.entry_enumerate_new (enum_new1 B) ⟨h1, ?_⟩
  have hz : (s.heap.push o).objs.size = s.heap.objs.size + 1 := Heap.size_push ..
  rw [hz]
  have he : IsEnum ((s.heap.push o).push { cls := .type "enumerate", data := .fields #[.none, .bool false, .ref s.heap.objs.size, rawInt 0, .none, .none] }) (s.heap.objs.size + 1) s.heap.objs.size 0 .none := by
    have e := Heap.get?_push_size (s.heap.push o) (o := { cls := .type "enumerate", data := .fields #[.none, .bool false, .ref s.heap.objs.size, rawInt 0, .none, .none] }) rfl
    rw [hz] at e
    exact e
  exact ⟨⟨_, he, rfl⟩, h _ he (Heap.get?_push_of_some _ (Heap.get?_push_size _ B.free)) (by rw [Heap.size_push, hz]) fun b o x => Heap.get?_push_of_some _ (Heap.get?_push_of_some _ x)⟩
end
/-- the tuple at a, each item in a new pair with its number -/
def IteT (K : PySem.W.Frag) (a : Addr) : It :=
  ⟨fun i H => ∃ (xs : List V) (x : V), SqT K H a xs ∧ xs[i]? = some x, fun i H v H' => ∃ T x, v = .ref T ∧ H T = Option.none ∧ H' = upd H T (.tup [.int (i : Nat), x]) ∧ ∀ xs, SqT K H a xs → xs[i]? = some x,
    fun i H => ∃ xs : List V, SqT K H a xs ∧ xs.length ≤ i⟩
theorem turn_enumT {P : Program} {w : World} {K : PySem.W.Frag} {elts : List Expr} {kk : Nat} {tpos : Pos} (a e it : Addr) :
    Turn P w K (.Tuple elts kk tpos) (IteT K a) [e, it] e (fun i h => (∃ old, IsEnum h e it ((i : Nat) : Int) old) ∧ h.IsTupleIter it a i ∧ e ≠ it ∧ a ≠ it ∧ a ≠ e) where
  mem := by simp
  obj := fun i h st b hb => by
    obtain ⟨⟨old, he⟩, ⟨o, ho, hc, hd⟩, _⟩ := st
    rcases (show b = e ∨ b = it by simpa using hb) with z | z
    · rw [z]; exact ⟨_, he, fun v q => nomatch q⟩
    · rw [z]; exact ⟨o, ho, fun v q => by rw [hd] at q; cases q⟩
  keep := fun i h h' st k => let ⟨⟨old, he⟩, hi, hne⟩ := st; ⟨⟨old, k e (by simp) _ he⟩, hi.at fun o q => k it (by simp) o q, hne⟩
  item := by
    intro X hP hw hK hc i pins s σ H E I hf st hg
    subst hP hw hK
    obtain ⟨⟨old, he⟩, hit, hne, hai, hae⟩ := st
    obtain ⟨xs, x, hq, hx⟩ := hg
    obtain ⟨its, rv, p, hz⟩ := I.tuple hq
    obtain ⟨u, hu, ru⟩ := rv.get hx
    have hel : e < s.heap.objs.size := Heap.lt_size he
    have hil : it < s.heap.objs.size := by obtain ⟨_, q, _⟩ := hit; exact Heap.lt_size q
    have hlt : i < its.toArray.size := by
      rw [List.size_toArray]
      exact (List.getElem?_eq_some_iff.mp hu).1
    refine wpAny_pyNext_enum_itemD (Draws.tuple (prog := X.prog) (w := X.w) (A := X.A.in1) (I.ok.hd hc) it a hai its.toArray) he ⟨hit, p⟩ hlt hne (by simp [hne, Ne.symm hae]) fun y h' tk hy ho hst hT hsz hk => ?_
    have ey : y = u := by
      have q : its[i]? = some y := by simpa using hy
      rw [hu] at q
      exact (Option.some.inj q).symm
    subst ey
    refine ⟨_, rfl, wpAny_letOwnedTupleGo_enum (s := { s with heap := h', toks := tk + 1 }) ho fun h'' he' sb => ?_⟩
    have hT2 : h''.get? s.heap.objs.size = some { cls := .type "tuple", data := .seq #[.int i tk, y] } := (sb.2 _ (Nat.ne_of_gt hel)).trans hT
    have new : ObjOk X.prog X.w (upd H s.heap.objs.size (.tup [.int (i : Nat), x])) h'' s.heap.objs.size (.tup [.int (i : Nat), x]) :=
      ⟨by show 2 ≤ sizeLine; decide, [.int i tk, y], .cons ⟨_, rfl⟩ (.cons ru .nil), ⟨_, hT2, rfl, _, rfl⟩⟩
    have I1 : Inv X pins σ (upd H s.heap.objs.size (.tup [.int (i : Nat), x])) { s with heap := h'', toks := tk + 1 } :=
      I.turnedNew (ch := [e, it]) (fun b ob hb q => (sb.2 b (fun z => hb (by simp [z]))).trans (hk b ob (fun z => hb (by simp [z])) (fun z => hb (by simp [z])) q)) hf (Nat.le_refl _) new
    refine ⟨.ref s.heap.objs.size, _, I1, rfl, ⟨_, x, rfl, I.hok.fresh (Nat.le_refl _), rfl, fun ys hy => by rw [I.tuple_inj hy hq]; exact hx⟩, ⟨⟨y, ?_⟩, hst.1.at fun o q => (sb.2 it (Ne.symm hne)).trans q, hne, hai, hae⟩, fun b hb => ?_⟩
    · have e1 : ((i + 1 : Nat) : Int) = (i : Int) + 1 := by omega
      rw [e1]; exact he'
    · have hb' : b < s.heap.objs.size := by
        rcases (show b = e ∨ b = it by simpa using hb) with z | z
        · rw [z]; exact hel
        · rw [z]; exact hil
      rw [upd_ne (Nat.ne_of_lt hb')]
      exact (hf b hb).1
  done := by
    intro X hP hw hK hc i pins s σ H E I hf st hg
    subst hP hw hK
    obtain ⟨⟨old, he⟩, hit, hne, hai, hae⟩ := st
    obtain ⟨xs, hq, hx⟩ := hg
    obtain ⟨its, rv, p, hz⟩ := I.tuple hq
    obtain ⟨f0, f1, f2, f3, f4, f5⟩ := hf it (by simp)
    have hl := rv.length
    have D : Draws X.prog X.w X.A.in1 it [it, a] i (fun _ _ => False) (fun j h => j = i ∧ h.IsTupleIter it a i ∧ h.IsTuple a its.toArray) :=
      { live := fun _ _ st => let ⟨o, ho, _⟩ := st.2.1; ⟨o, ho⟩
        frame := fun _ _ _ st hk => ⟨st.1, st.2.1.at fun o e => hk it (by simp) o e, st.2.2.at fun o e => hk a (by simp) o e⟩
        item := fun j s Q E hj st => absurd hj (by rw [st.1]; exact Nat.lt_irrefl _)
        done := fun s Q E st hE => wpAny_nextOf_tuple_end (I.ok.hd hc) st.2.1 st.2.2 (by simp; omega) hE }
    exact wpAny_pyNext_enum_endD D he ⟨rfl, hit, p⟩ fun h' eb => ⟨rfl, I.turned (t' := s.toks) (fun b o hb q => eb b o hb q) f0 f1 f3 f4 f5⟩
  self := fun A i s Q E st h => let ⟨⟨_, he⟩, _⟩ := st; wpAny_pyIter_enum he h
def iEnumT (K : PySem.W.Frag) (ta : TA) : TI := fun σ H R => ta σ H fun vs H1 => ∃ a xs, vs = [.ref a] ∧ SqT K H1 a xs ∧ R (IteT K a) H1
theorem pi_enumT {X : Cx} {e : Expr} {ta : TA} {p pos tpos : Pos} {elts : List Expr} {kk : Nat} (hg : Gl X "enumerate") (hm : X.mg "enumerate" = none) (ha : PA X [e] ta) (hs : starEach [e] X.env = [(false, eval e X.env)] := by rfl) :
    PI X (.Tuple elts kk tpos) (.Call (.Name "enumerate" p) [e] [] pos) (iEnumT X.K ta) := by
  refine ⟨fun pins s σ H R I h => ?_⟩
  refine Call_ (ld_blt I hg hm boot_enumerate (PyProof.Rows.callWith_type1 (thn (ha.run pos pins s σ H _ I h) fun us s1 hz => ?_) hs rfl))
  obtain ⟨vs, H1, I1, r1, a, xs, ex, hq, q⟩ := hz
  subst ex
  cases r1 with
  | cons r rr =>
    cases rr
    cases r
    obtain ⟨its, rv, p', hz⟩ := I1.tuple hq
    refine call_enum1 (begins_tuple a its.toArray) p' fun h' he hit hsz hk => wpAny_pyIter_enum he ?_
    have hal : a < s1.heap.objs.size := p'.lt
    refine ⟨s1.heap.objs.size + 1, [s1.heap.objs.size + 1, s1.heap.objs.size], _, _, H1, rfl, I1.kept (t' := s1.toks) hk, turn_enumT a (s1.heap.objs.size + 1) s1.heap.objs.size,
      ⟨⟨.none, he⟩, ⟨_, hit, rfl, rfl⟩, Nat.succ_ne_self _, Nat.ne_of_lt hal, Nat.ne_of_lt (Nat.lt_succ_of_lt hal)⟩, fun b hb => ?_, q⟩
    have hle : s1.heap.objs.size ≤ b := by
      rcases (show b = s1.heap.objs.size + 1 ∨ b = s1.heap.objs.size by simpa using hb) with z | z
      · rw [z]; exact Nat.le_add_right _ _
      · rw [z]; exact Nat.le_refl _
    exact I1.fpOk hle (I1.hok.fresh hle)
theorem walk_enumT {K : PySem.W.Frag} {a : Addr} {xs : List V} : Walk (IteT K a) xs.length (fun H => SqT K H a xs) (YPair (fun i => some (.int (i : Nat))) (fun i => xs[i]?)) := by
  refine ⟨fun i _ hi q => ⟨xs, xs[i], q, by simp [hi]⟩, fun _ q => ⟨xs, q, Nat.le_refl _⟩, fun i H v H' _ q y => ?_⟩
  obtain ⟨T, x, h1, h2, h3, h4⟩ := y
  exact ⟨T, .int (i : Nat), x, h1, h2, h3, rfl, h4 xs q⟩
theorem walk_zipT {K : PySem.W.Frag} {a b : Addr} {xs ys : List V} {n : Nat} (hn : n = min xs.length ys.length) : Walk (RZ.ItzT K a b) n (fun H => SqT K H a xs ∧ SqT K H b ys) (YPair (fun i => xs[i]?) (fun i => ys[i]?)) := by
  subst hn
  refine ⟨fun i _ hi q => ?_, fun _ q => ⟨xs, ys, q.1, q.2, by omega⟩, fun i H v H' _ q y => ?_⟩
  · have h1 : i < xs.length := by omega
    have h2 : i < ys.length := by omega
    exact ⟨xs, ys, xs[i], ys[i], q.1, q.2, by simp [h1], by simp [h2]⟩
  · obtain ⟨T, x, z, h1, h2, h3, h4, h5⟩ := y
    exact ⟨T, x, z, h1, h2, h3, h4 xs q.1, h5 ys q.2⟩

/-! ### sorted(d.keys()) of a dict of int keys -/
section
variable {X : Cx}
/-- the view r of the keys of the dict at d -/
def ViewO (r d : Addr) : HO := .ext fun h => PySem.W.KdlKeysView h r d
def tKeys (td : TE) : TE := fun σ H Q => td σ H fun x H1 => ∃ d, x = .ref d ∧ (∃ kvs, H1 d = some (.dK kvs)) ∧ ∀ r, H1 r = Option.none → Q (.ref r) (upd H1 r (ViewO r d))
theorem pe_keys {e : Expr} {td : TE} {apos cpos : Pos} (he : PE X e td) (hbase : attributeBase e "keys" X.env (eval e X.env) = eval e X.env := by rfl) (hline : (apos.endLine == cpos.line) = true := by rfl) :
    PE X (.Call (.Attribute e "keys" apos) [] [] cpos) (tKeys td) := by
  refine ⟨fun pins s σ H Q I h => ?_⟩
  refine wpAny_Call_method (T := "dict") (id := "dict.keys") hbase rfl hline F.plainAttrs_dict F.slot_dict_keys F.type_dict_keys (thn (he.run pins s σ H _ I h) fun u s1 hz => ?_)
  obtain ⟨x, H1, I1, rx, d, ex, ⟨kvs, hd⟩, q⟩ := hz
  subst ex
  obtain rfl : u = Value.ref d := rx
  obtain ⟨z, lo, vs, rel, dd⟩ := dk_of I1.hok hd
  refine ⟨dd.typeIs, dd.mapOf.noDict, ?_⟩
  show wpAny _ _ (callWith cpos (.builtin "dict.keys") [.ref d] [] []) _ X.xe s1
  have fin : EP X pins σ Q (.ref s1.heap.objs.size) { s1 with heap := s1.heap.push { cls := .type "dict_keys", data := .fields #[.ref d] } } := by
    refine ⟨.ref s1.heap.objs.size, upd H1 s1.heap.objs.size (ViewO s1.heap.objs.size d), I1.laid (t' := s1.toks) (fun b u e => Heap.get?_push_of_some _ e) (Nat.le_refl _) ?_, rfl, q _ (I1.hok.fresh (Nat.le_refl _))⟩
    refine ⟨⟨_, Heap.get?_push_size _ rfl, rfl, rfl⟩, ⟨_, Heap.get?_push_size _ rfl⟩, fun h1 h2 a b => ?_⟩
    obtain ⟨o, ho, c⟩ := a
    exact ⟨o, b o ho, c⟩
  exact method_meetsIn F.slot_dict_keys F.entry_dict_keys rfl (PySem.evalArgs_none ⟨rfl, dd.typeIs, F.args_dict_keys_1 _, _, PySem.W.kdl_meets_keys (mixKind X.prog X.w) d lo, ⟨vs, dd⟩, fin⟩)
theorem call_sortedK (hcalm : X.calm = true) : CallR X (.builtin "sorted") (fun xs H Q => ∃ (r d : Addr) (kvs : List (Key × V)) (ks : List Int), xs = [.ref r] ∧ H r = some (ViewO r d) ∧ H d = some (.dK kvs) ∧ kvs.map (·.1) = ks.map Sum.inl ∧ ks.length < 64 ∧
    ∀ (ys : List Int) (p : Addr), ys.Perm ks → ys.Pairwise (· ≤ ·) → H p = Option.none → Q (.ref p) (upd H p (.lst (ys.map V.int)))) := by
  intro pins s σ H xs us Q I rr q
  obtain ⟨r, d, kvs, ks, ex, hr, hd, hks, h64, q⟩ := q
  subst ex
  obtain ⟨u, eu, rx⟩ := vals1 rr
  subst eu
  cases rx
  have hv : PySem.W.KdlKeysView s.heap r d := (I.hok r _ hr).1
  obtain ⟨z, lo, vs, rel, dd⟩ := dk_of I.hok hd
  obtain ⟨ep, hat⟩ := dd.dictAt
  have hkeys : vs.map (·.1) = ks.map Sum.inl := rel.keys.symm.trans hks
  have hl : vs.length = ks.length := by simpa using congrArg List.length hkeys
  have h16 : vs.length ≤ sizeLine := by rw [hl, sizeLine_eq]; omega
  refine Calls.call_function_entry PyProof.Rows.kind_sorted PyProof.Rows.plain_sorted PyProof.Rows.entry_sorted (PyProof.Rows.args_sorted1 _) ?_
  unfold Builtin.«sorted»
  refine wpAny_bind (m := checkCount "sorted" 1 1 _) (wpAny_pure ?_)
  refine wpAny_bind (PySem.W.kdu_collect (A := X.A.in1) (PySem.W.kdl_keys (knd := mixKind X.prog X.w) (r := r) (d := d) (kvs := vs) (ep := ep)) (I.ok.hd hcalm) ⟨hv, hat⟩ h16 fun h' tk acc hk hacc => ?_)
  have hal : acc.toList.length = ks.length := by rw [Array.length_toList, hacc.1, hl]
  have hS : IntsAre acc.toList ks := ints_each hal fun j v e => by
    obtain ⟨k, x, e1, e2⟩ := hacc.2 j v (by rw [← Array.getElem?_toList]; exact e)
    have e3 : (vs.map (·.1))[j]? = some k := by rw [List.getElem?_map, e1]; rfl
    rw [hkeys, List.getElem?_map] at e3
    obtain ⟨y, ey, e4⟩ := Option.map_eq_some_iff.mp e3
    subst e4
    rcases keyIs_shape (show keyIs (Sum.inl y) v = true from e2) with ⟨i, t, ek, ev⟩ | ⟨_, t, ek, ev⟩
    · cases ek
      exact ⟨y, t, ey, ev⟩
    · cases ek
  have I1 : Inv X pins σ H { s with heap := h', toks := tk } := I.kept hk
  refine wpAny_bind (wpAny_newList ?_ (by rw [hal, sizeLine_eq]; omega))
  have hoL : (h'.push (seqObj "list" acc.toList.toArray 0)).get? h'.objs.size = some (seqObj "list" acc.toList.toArray 0) := Heap.get?_push_size _ rfl
  show wpAny _ _ _ _ _ { s with heap := h'.push (seqObj "list" acc.toList.toArray 0), toks := tk }
  refine wpAny_bind (wpAny_holding (wpAny_call_entry PyProof.Rows.slot_list_sort ⟨_, hoL, rfl⟩ PyProof.Rows.entry_list_sort
    (PyProof.Rows.list_sort_tree (s := { s with heap := h'.push (seqObj "list" acc.toList.toArray 0), toks := tk }) hoL hS (by rw [hal]; exact h64) fun out ys g1 g2 g3 => ⟨_, rfl, ?_⟩) (PyProof.Rows.args_list_sort _)))
  obtain ⟨e', he'⟩ := PyProof.Rows.sortedHeap_at (vs := acc.toList) (out := out) hoL
  have hlen : (ys.map V.int).length ≤ sizeLine := by
    rw [List.length_map, g2.length_eq]
    exact Nat.le_trans (Nat.le_of_lt h64) (by decide)
  refine wpAny_pure ⟨_, rfl, .ref h'.objs.size, upd H h'.objs.size (.lst (ys.map V.int)), I1.laid (t' := tk) (fun b u e => ?_) (Nat.le_refl _)
    (show ObjOk X.prog X.w _ _ _ (.lst (ys.map V.int)) from ⟨hlen, out.toList, e', vals_of_ints g1, by rw [Array.toArray_toList]; exact he'⟩), rfl, q ys _ g2 g3 (I1.hok.fresh (Nat.le_refl _))⟩
  have hb : b < h'.objs.size := Heap.lt_size e
  rw [PyProof.Rows.sortedHeap_old (Nat.ne_of_lt hb) (by rw [size_push']; exact Nat.lt_succ_of_lt hb)]
  exact Heap.get?_push_of_some _ e
end
end Cm

/-! a dict of things by births -/
namespace Cm
open PySem L2
/-- a thing: a word, then data without lists -/
def windD (b : Int) : PyData := .tuple [.str "wind", .int (1000 + b), .int (2000 + b)]
def wordD : PyData → Str
  | .tuple (.str x :: _) => x
  | _ => ""
structure Th (b : Int) (d : PyData) : Prop where
  ex : ∃ (wd : Str) (r : List PyData), d = .tuple (.str wd :: r)
  fl : flatD d = true
  ok : okD d = true
  dp : d.depth ≤ 8
  wt : d.weight ≤ 4000
  wn : wordD d = "wind" → d = windD b
/-- the dict at d holds es -/
structure ThAt (K : PySem.W.Frag) (H : Hp) (d : Addr) (es : List (Int × PyData)) (kvs : List (Key × V)) : Prop where
  at_ : H d = some (.dK kvs)
  ks : kvs.map (·.1) = es.map (fun e => Sum.inl e.1)
  vs : DpAll K H (kvs.map (·.2)) (es.map (·.2))
  th : ∀ e ∈ es, Th e.1 e.2
def thg (es : List (Int × PyData)) (b : Int) : PyData := ((es.find? fun e => decide (e.1 = b)).map (·.2)).getD .none
def word (es : List (Int × PyData)) (b : Int) : Str := wordD (thg es b)
theorem th_find {K : PySem.W.Frag} {H : Hp} (b : Int) : ∀ (es : List (Int × PyData)) (kvs : List (Key × V)), kvs.map (·.1) = es.map (fun e => (Sum.inl e.1 : Key)) → DpAll K H (kvs.map (·.2)) (es.map (·.2)) →
    b ∈ es.map (·.1) → ∃ v, valV kvs (Sum.inl b) = some v ∧ Dp K H v (thg es b) ∧ (b, thg es b) ∈ es
  | [], _, _, _, m => by simp at m
  | e :: es, kvs, hk, hv, m => by
    cases kvs with
    | nil => simp at hk
    | cons a kvs =>
      simp only [List.map_cons, List.cons.injEq] at hk
      cases hv with
      | cons h1 h2 =>
        by_cases q : e.1 = b
        · refine ⟨a.2, ?_, ?_, ?_⟩
          · unfold valV
            rw [List.find?_cons_of_pos (by rw [hk.1, q]; simp)]
            rfl
          · have : thg (e :: es) b = e.2 := by
              unfold thg
              rw [List.find?_cons_of_pos (by simp [q])]
              rfl
            rw [this]
            exact h1
          · have : thg (e :: es) b = e.2 := by
              unfold thg
              rw [List.find?_cons_of_pos (by simp [q])]
              rfl
            rw [this, ← q]
            exact List.mem_cons_self
        · have m' : b ∈ es.map (·.1) := by
            simp only [List.map_cons, List.mem_cons] at m
            rcases m with m | m
            · exact absurd m.symm q
            · exact m
          obtain ⟨v, g1, g2, g3⟩ := th_find b es kvs hk.2 h2 m'
          have e2 : thg (e :: es) b = thg es b := by
            unfold thg
            rw [List.find?_cons_of_neg (by simpa using q)]
          refine ⟨v, ?_, by rw [e2]; exact g2, by rw [e2]; exact List.mem_cons_of_mem _ g3⟩
          unfold valV at g1 ⊢
          rw [List.find?_cons_of_neg (by rw [hk.1]; simpa using q)]
          exact g1
theorem ThAt.get {K : PySem.W.Frag} {H : Hp} {d : Addr} {es : List (Int × PyData)} {kvs : List (Key × V)} (x : ThAt K H d es kvs) {b : Int} (m : b ∈ es.map (·.1)) :
    ∃ (p : Addr) (its : List V), DGet H d (.int b) (some (.ref p)) ∧ SqT K H p its ∧ atI its 0 = some (.str (word es b)) ∧ Dp K H (.ref p) (thg es b) ∧ Th b (thg es b) := by
  obtain ⟨v, h1, h2, h3⟩ := th_find b es kvs x.ks x.vs m
  have t : Th b (thg es b) := x.th _ h3
  obtain ⟨wd, r, ed⟩ := t.ex
  have h2' := h2
  have e3 : word es b = wd := by
    unfold word
    rw [ed]
    rfl
  rw [ed] at h2'
  cases h2' with
  | @tup a its ds hs ha =>
    refine ⟨a, its, ?_, hs, ?_, by rw [ed]; exact .tup hs ha, t⟩
    · have q := DGet.k (k := Sum.inl b) x.at_
      rw [h1] at q
      exact q
    · rw [e3]
      cases ha with
      | cons q1 q2 =>
        cases q1
        exact atI_nat (j := 0) rfl
theorem putK_end {kvs : List (Key × V)} {k : Key} {v : V} (h : ∀ p ∈ kvs, p.1 ≠ k) : putK kvs k v = kvs ++ [(k, v)] := by
  unfold putK
  rw [if_neg]
  intro q
  obtain ⟨p, hp, e⟩ := List.any_eq_true.mp q
  exact h p hp (of_decide_eq_true e)
theorem decS {x y : Str} : decide (V.str x = V.str y) = decide (x = y) := by
  by_cases q : x = y
  · rw [q]; simp
  · rw [decide_eq_false q, decide_eq_false (fun z => q (V.str.inj z))]
theorem ThAt.same {K : PySem.W.Frag} {H H' : Hp} {d : Addr} {es : List (Int × PyData)} {kvs : List (Key × V)} (x : ThAt K H d es kvs) (s : Same H H') : ThAt K H' d es kvs :=
  ⟨s _ _ x.at_, x.ks, dps_same s _ _ x.vs, x.th⟩
theorem flatDs_of : ∀ ds : List PyData, (∀ d ∈ ds, flatD d = true) → flatDs ds = true
  | [], _ => rfl
  | d :: ds, h => by simp [flatDs, h d List.mem_cons_self, flatDs_of ds fun x hx => h x (List.mem_cons_of_mem _ hx)]
theorem ThAt.fl {K : PySem.W.Frag} {H : Hp} {d : Addr} {es : List (Int × PyData)} {kvs : List (Key × V)} (x : ThAt K H d es kvs) : flatDs (es.map (·.2)) = true :=
  flatDs_of _ fun z hz => by
    obtain ⟨e, he, rfl⟩ := List.mem_map.mp hz
    exact (x.th e he).fl
theorem ThAt.kp {M : Addr → Prop} {K : PySem.W.Frag} {H H' : Hp} {d : Addr} {es : List (Int × PyData)} {kvs : List (Key × V)} (x : ThAt K H d es kvs) (k : Kp M H H') (n : ¬ M d) : ThAt K H' d es kvs :=
  ⟨k.st _ _ n x.at_, x.ks, dps_keep (fun _ _ h => k.tup h) _ _ x.fl x.vs, x.th⟩
theorem wt_int {i : Int} (h : i.natAbs < 10 ^ 12) : PyData.weight (.int i) ≤ 64 := by
  simp only [PyData.weight]
  split
  · omega
  · rename_i q
    have q' : i.natAbs ≠ 0 := by
      intro z
      apply q
      simp
      omega
    have := (Nat.log2_lt q').mpr (show i.natAbs < 2 ^ 63 from Nat.lt_of_lt_of_le h (by decide))
    omega
theorem ThAt.snoc {K : PySem.W.Frag} {H : Hp} {d : Addr} {es : List (Int × PyData)} {kvs : List (Key × V)} (x : ThAt K H d es kvs) {b : Int} {v : V} {t : PyData} (n : b ∉ es.map (·.1)) (hv : Dp K H v t) (ht : Th b t) :
    ThAt K (upd H d (.dK (putK kvs (Sum.inl b) v))) d (es ++ [(b, t)]) (putK kvs (Sum.inl b) v) := by
  have e1 : putK kvs (Sum.inl b) v = kvs ++ [(Sum.inl b, v)] := putK_end fun p hp q => n (by
    have : p.1 ∈ kvs.map (·.1) := List.mem_map.mpr ⟨p, hp, rfl⟩
    rw [x.ks] at this
    obtain ⟨e, he, e2⟩ := List.mem_map.mp this
    rw [q] at e2
    exact List.mem_map.mpr ⟨e, he, Sum.inl.inj e2⟩)
  have keep : ∀ a xs, SqT K H a xs → SqT K (upd H d (.dK (putK kvs (Sum.inl b) v))) a xs := fun a xs h => by
    rcases h with (h | ⟨o, h⟩) | h
    · exact .inl (.inl (by rw [upd_ne (ne_of h x.at_ (by intro z; cases z))]; exact h))
    · exact .inl (.inr ⟨o, by rw [upd_ne (ne_of h x.at_ (by intro z; cases z))]; exact h⟩)
    · exact .inr h
  refine ⟨upd_same, ?_, ?_, ?_⟩
  · rw [e1, List.map_append, List.map_append, x.ks]
    rfl
  · have h1 := dps_keep keep _ _ x.fl x.vs
    have h2 := dp_keep keep _ _ ht.fl hv
    rw [show (putK kvs (Sum.inl b) v).map (·.2) = kvs.map (·.2) ++ [v] by rw [e1, List.map_append]; rfl, List.map_append]
    exact DpAll.snoc h2 h1
  · intro e he
    rcases List.mem_append.mp he with he | he
    · exact x.th e he
    · cases List.mem_singleton.mp he
      exact ht
theorem Kp.mut {M : Addr → Prop} {H H' : Hp} {d : Addr} {o : HO} (k : Kp M H H') (hd : H d = Option.none) : Kp M H (upd H' d o) :=
  ⟨fun a u n e => by
    rw [upd_ne (ne_of_none e hd)]
    exact k.st a u n e, k.l1, fun a m => by
    have q : a ≠ d := fun q => k.m_of hd (q ▸ m)
    rw [upd_ne q]
    exact k.l2 a m⟩
theorem Hand.put {H : Hp} {h c d : Addr} {o : HO} (x : Hand H h c) (n : ∀ xs, H d ≠ some (.lst xs)) : Hand (upd H d o) h c := by
  obtain ⟨cells, i, b, t, e1, e2, q⟩ := x
  refine ⟨cells, i, b, t, ?_, ?_, q⟩
  · rw [upd_ne (fun z => n _ (z ▸ e1))]
    exact e1
  · rw [upd_ne (fun z => n _ (z ▸ e2))]
    exact e2
theorem Hand.puts {H : Hp} {h c d : Addr} {o : HO} (x : Hand H h c) (n1 : d ≠ h) (n2 : d ≠ c) : Hand (upd H d o) h c := by
  obtain ⟨cells, i, b, t, e1, e2, q⟩ := x
  exact ⟨cells, i, b, t, by rw [upd_ne (Ne.symm n1)]; exact e1, by rw [upd_ne (Ne.symm n2)]; exact e2, q⟩
theorem Hand.there {H : Hp} {h c d : Addr} (x : Hand H h c) (n : H d = Option.none) : d ≠ h ∧ d ≠ c := by
  obtain ⟨cells, i, b, t, e1, e2, q⟩ := x
  exact ⟨(ne_of_none e1 n).symm, (ne_of_none e2 n).symm⟩
theorem Hand.ne {H : Hp} {h c d : Addr} (x : Hand H h c) (n : ∀ xs, H d ≠ some (.lst xs)) : d ≠ h := fun z => by
  obtain ⟨xs, e⟩ := x.lst
  exact n xs (z ▸ e)
/-- 1 .. n -/
def births (n : Nat) : List Int := (List.range n).map fun (i : Nat) => (i : Int) + 1
theorem births_succ (n : Nat) : births (n + 1) = births n ++ [(n : Int) + 1] := by
  unfold births
  rw [List.range_succ, List.map_append]
  rfl
theorem births_mem {n : Nat} {b : Int} : b ∈ births n ↔ 1 ≤ b ∧ b ≤ n := by
  unfold births
  rw [List.mem_map]
  constructor
  · rintro ⟨i, hi, rfl⟩
    have := List.mem_range.mp hi
    omega
  · intro q
    exact ⟨(b - 1).toNat, List.mem_range.mpr (by omega), by omega⟩
/-- a new thing is put at the next birth -/
theorem things_put {K : PySem.W.Frag} {H H3 : Hp} {h c d : Addr} {es : List (Int × PyData)} {kvs : List (Key × V)} {i : Nat} {v : V} {t : PyData} (kh : Kh h H H3) (hh : Hand H3 h c) (x : ThAt K H3 d es kvs) (hd : H d = Option.none)
    (hk : es.map (·.1) = births i) (hi : i < 1000) (hv : Dp K H3 v t) (ht : Th (1 + i) t) :
    ∃ H4 es' kvs', DPut H3 d (.int (1 + (i : Nat))) v H4 ∧ Kh h H H4 ∧ Hand H4 h c ∧ ThAt K H4 d es' kvs' ∧ es'.map (·.1) = births (i + 1) := by
  have hb : (1 : Int) + i ∉ es.map (·.1) := by
    rw [hk, births_mem]
    omega
  have hl : kvs.length < sizeLine := by
    have e := congrArg List.length x.ks
    rw [List.length_map, List.length_map] at e
    have e2 := congrArg List.length hk
    rw [List.length_map] at e2
    have e3 : (births i).length = i := by unfold births; rw [List.length_map, List.length_range]
    rw [e, e2, e3]
    exact Nat.lt_trans hi (by decide)
  refine ⟨_, _, _, DPut.k (k := Sum.inl (1 + (i : Int))) x.at_ hl, kh.mut hd, hh.put (fun xs e => by rw [x.at_] at e; cases e), x.snoc hb hv ht, ?_⟩
  rw [List.map_append, hk, births_succ]
  show births i ++ [1 + (i : Int)] = _
  rw [show (1 : Int) + i = i + 1 by omega]
theorem births_len (n : Nat) : (births n).length = n := by
  unfold births
  rw [List.length_map, List.length_range]
end Cm

/-! comprehensions over data -/
namespace Cm
open PySem L2
theorem sqt_put {K : PySem.W.Frag} {H : Hp} {D a : Addr} {xs ys zs : List V} (h : H D = some (.lst ys)) (q : SqT K H a xs) : SqT K (upd H D (.lst zs)) a xs := by
  rcases q with (q | ⟨o, q⟩) | q
  · exact .inl (.inl (by rw [upd_ne (ne_of q h (by intro z; cases z))]; exact q))
  · exact .inl (.inr ⟨o, by rw [upd_ne (ne_of q h (by intro z; cases z))]; exact q⟩)
  · exact .inr q
theorem same_put {H H' : Hp} {D : Addr} {o : HO} (s : Same H H') (h : H D = Option.none) : Same H (upd H' D o) := fun b u e => by
  rw [upd_ne (ne_of_none e h)]
  exact s b u e
theorem sqt_same {K : PySem.W.Frag} {H H' : Hp} {a : Addr} {xs : List V} (s : Same H H') (h : SqT K H a xs) : SqT K H' a xs := by
  rcases h with (h | ⟨o, h⟩) | h
  · exact .inl (.inl (s _ _ h))
  · exact .inl (.inr ⟨o, s _ _ h⟩)
  · exact .inr h
theorem flatDs_all {ds : List PyData} (h : flatDs ds = true) : ∀ d ∈ ds, flatD d = true := by
  induction ds with
  | nil => intro d hd; cases hd
  | cons a r ih =>
    have h' : flatD a = true ∧ flatDs r = true := by simpa [flatDs] using h
    intro d hd
    rcases List.mem_cons.mp hd with rfl | hd
    · exact h'.1
    · exact ih h'.2 d hd
theorem flatDs_app {ds es : List PyData} (h1 : flatDs ds = true) (h2 : flatDs es = true) : flatDs (ds ++ es) = true :=
  flatDs_of _ fun d hd => by
    rcases List.mem_append.mp hd with q | q
    · exact flatDs_all h1 d q
    · exact flatDs_all h2 d q
theorem walk_upto {n : Nat} : Walk (Itr 0 n) n (fun _ => True) (YFn fun i => .int ((i : Nat) : Int)) :=
  ⟨fun _ _ hi _ => hi, fun _ _ => Nat.le_refl _, fun i H x H' _ _ y => ⟨y.1, by
    have := y.2
    rw [Int.zero_add] at this
    exact this⟩⟩
/-! ### the same rules where the context is a comprehension's block: K is said -/
section
variable {X : Cx} {K : PySem.W.Frag}
theorem kx_tup (h : X.K = K := by rfl) : IxR X (rIxT K) := by subst h; exact ix_tup
theorem kx_list (h : X.K = K := by rfl) : IxR X (rIxL K) := by subst h; exact ix_list
theorem kx_seq (h : X.K = K := by rfl) : IxR X (rIx K) := by subst h; exact ix_seq
theorem ko_eqD (hu : X.A.units + 64 < cLine) (h : X.K = K := by rfl) : OpR X (compareOp .Eq) (rEqD K) := by subst h; exact op_eqD hu
theorem ko_neD (hu : X.A.units + 64 < cLine) (h : X.K = K := by rfl) : OpR X (compareOp .NotEq) (rNeD K) := by subst h; exact op_neD hu
theorem ko_in (h : X.K = K := by rfl) : OpR X (compareOp .In) (rIn K false) := by subst h; exact op_in_seq
theorem ko_notIn (h : X.K = K := by rfl) : OpR X (compareOp .NotIn) (rIn K true) := by subst h; exact op_notIn_seq
theorem ko_catA (h : X.K = K := by rfl) : OpR X (binaryOp .Add) (rCatA K) := by subst h; exact op_catA
def rLen (K : PySem.W.Frag) : List V → Hp → VK → Prop := fun xs H Q => ∃ p ys, xs = [.ref p] ∧ (SqL K H p ys ∨ SqT K H p ys) ∧ Q (.int ys.length) H
theorem kc_len (h : X.K = K := by rfl) : CallR X (.builtin "len") (rLen K) := by subst h; exact call_len_seq
end
/-- a comprehension whose items are data without lists: R i is the i-th turn's, none if it is left out -/
theorem lc_data {K : PySem.W.Frag} {J : It} {n : Nat} {G : Hp → Prop} {Y : Nat → Hp → V → Hp → Prop} (wk : Walk J n G Y) {g : TG} {tt : TT} {te : TE} {vs : List Nat} {σ : L2.St} {H1 : Hp} {D : Addr} {Qd : Hp → Prop} (R : Nat → Option PyData)
    (hD : H1 D = Option.none) (hn : n ≤ 100000) (hG : ∀ H, Same H1 H → G H) (hfl : ∀ i < n, ∀ d, R i = some d → flatD d = true)
    (hs : ∀ i x H H', i < n → Same H1 H → Y i H x H' → ∀ (Q1 : VK) (Q0 : Hp → Prop), (∀ v H4 d, R i = some d → Same H H4 → Dp K H4 v d → Q1 v H4) → (∀ H3, R i = none → Same H H3 → Q0 H3) →
      g x (wipe σ vs) H' fun σ2 H2 => wipe σ2 vs = wipe σ vs ∧ tt σ2 H2 fun b H3 => if b = true then te σ2 H3 Q1 else Q0 H3)
    (hd : ∀ H acc, Same H1 H → H D = some (.lst acc) → DpAll K H acc ((List.range n).filterMap R) → Qd H) :
    ∃ W : Nat → Nat → Hp → Prop, (∃ m, W 0 m (upd H1 D (.lst []))) ∧ ∀ i m H, W i m H →
      (J.stop i H ∧ Qd H) ∨ (J.go i H ∧ ∃ Nx : Hp → Prop, (∀ H', Nx H' → ∃ m', m' < m ∧ W (i + 1) m' H') ∧ ∀ x H', J.yld i H x H' → g x (wipe σ vs) H' fun σ2 H2 => wipe σ2 vs = wipe σ vs ∧ tt σ2 H2 fun b H3 =>
        if b = true then te σ2 H3 fun y H4 => ∃ acc, H4 D = some (.lst acc) ∧ acc.length < sizeLine ∧ Nx (upd H4 D (.lst (acc ++ [y]))) else Nx H3) := by
  have fl : ∀ i ≤ n, flatDs ((List.range i).filterMap R) = true := fun i hi => flatDs_of _ fun d hd => by
    obtain ⟨j, hj, e⟩ := List.mem_filterMap.mp hd
    exact hfl j (by have := List.mem_range.mp hj; omega) d e
  refine lc_it wk (fun i H => ∃ acc, Same H1 H ∧ H D = some (.lst acc) ∧ DpAll K H acc ((List.range i).filterMap R) ∧ acc.length ≤ i) ⟨[], same_new hD, upd_same, .nil, Nat.le_refl _⟩ (fun i H _ z => ?_) ?_ ?_
  · obtain ⟨acc, s, _⟩ := z
    exact hG H s
  · rintro i x H H' hi ⟨acc, s, hacc, ha, hl⟩ y
    refine hs i x H H' hi s y _ _ (fun v H4 d e s4 hv => ?_) (fun H3 e s3 => ?_)
    · have hD4 := s4 _ _ hacc
      refine ⟨acc, hD4, Nat.lt_of_le_of_lt hl (Nat.lt_of_lt_of_le (show i < 100000 by omega) (by decide)), acc ++ [v], same_put (s.trans s4) hD, upd_same, ?_, by rw [List.length_append]; exact Nat.succ_le_succ hl⟩
      rw [List.range_succ, List.filterMap_append]
      have e1 : ([i].filterMap R) = [d] := by simp [e]
      rw [e1]
      exact DpAll.snoc (dp_keep (fun _ _ q => sqt_put hD4 q) _ _ (hfl i hi d e) hv) (dps_keep (fun _ _ q => sqt_put hD4 q) _ _ (fl i (by omega)) (dps_same s4 _ _ ha))
    · refine ⟨acc, s.trans s3, s3 _ _ hacc, ?_, by omega⟩
      rw [List.range_succ, List.filterMap_append]
      have e1 : ([i].filterMap R) = [] := by simp [e]
      rw [e1, List.append_nil]
      exact dps_same s3 _ _ ha
  · rintro H ⟨acc, s, hacc, ha, _⟩
    exact hd H acc s hacc ha
/-- a comprehension that draws: each item is data that is good -/
theorem lc_draw {K : PySem.W.Frag} {M : Addr → Prop} {J : It} {n : Nat} {G : Hp → Prop} {Y : Nat → Hp → V → Hp → Prop} (wk : Walk J n G Y) {g : TG} {tt : TT} {te : TE} {vs : List Nat} {σ : L2.St} {H1 : Hp} {D : Addr} {Qd : Hp → Prop}
    (I : Hp → Prop) (Gd : PyData → Prop) (hM : ∀ a, M a → ∃ xs, H1 a = some (.lst xs)) (h0 : I (upd H1 D (.lst []))) (hI : ∀ H ys, Kp M H1 H → I H → I (upd H D (.lst ys)))
    (hD : H1 D = Option.none) (hn : n ≤ 100000) (hG : ∀ H, Kp M H1 H → I H → G H) (hfl : ∀ d, Gd d → flatD d = true)
    (hs : ∀ i x H H', i < n → Kp M H1 H → I H → Y i H x H' → ∀ (Q1 : VK) (Q0 : Hp → Prop), (∀ v H4 d, Gd d → Kp M H H4 → I H4 → Dp K H4 v d → Q1 v H4) → (∀ H3, Kp M H H3 → I H3 → Q0 H3) →
      g x (wipe σ vs) H' fun σ2 H2 => wipe σ2 vs = wipe σ vs ∧ tt σ2 H2 fun b H3 => if b = true then te σ2 H3 Q1 else Q0 H3)
    (hd : ∀ H acc ds, Kp M H1 H → I H → H D = some (.lst acc) → DpAll K H acc ds → (∀ d ∈ ds, Gd d) → ds.length ≤ n → Qd H) :
    ∃ W : Nat → Nat → Hp → Prop, (∃ m, W 0 m (upd H1 D (.lst []))) ∧ ∀ i m H, W i m H →
      (J.stop i H ∧ Qd H) ∨ (J.go i H ∧ ∃ Nx : Hp → Prop, (∀ H', Nx H' → ∃ m', m' < m ∧ W (i + 1) m' H') ∧ ∀ x H', J.yld i H x H' → g x (wipe σ vs) H' fun σ2 H2 => wipe σ2 vs = wipe σ vs ∧ tt σ2 H2 fun b H3 =>
        if b = true then te σ2 H3 fun y H4 => ∃ acc, H4 D = some (.lst acc) ∧ acc.length < sizeLine ∧ Nx (upd H4 D (.lst (acc ++ [y]))) else Nx H3) := by
  have nM : ¬ M D := fun m => by
    obtain ⟨xs, e⟩ := hM D m
    rw [hD] at e
    cases e
  refine lc_it wk (fun i H => ∃ acc ds, Kp M H1 H ∧ I H ∧ H D = some (.lst acc) ∧ DpAll K H acc ds ∧ (∀ d ∈ ds, Gd d) ∧ ds.length ≤ i) ⟨[], [], Kp.new hM hD, h0, upd_same, .nil, (by intro d hd; cases hd), Nat.le_refl _⟩ (fun i H _ z => ?_) ?_ ?_
  · obtain ⟨acc, ds, s, iH, _⟩ := z
    exact hG H s iH
  · rintro i x H H' hi ⟨acc, ds, s, iH, hacc, ha, hg, hl⟩ y
    have fl : flatDs ds = true := flatDs_of _ fun d hd => hfl d (hg d hd)
    refine hs i x H H' hi s iH y _ _ (fun v H4 d e s4 i4 hv => ?_) (fun H3 s3 i3 => ?_)
    · have hD4 := s4.st _ _ nM hacc
      refine ⟨acc, hD4, ?_, acc ++ [v], ds ++ [d], (s.trans s4).mut hD, hI _ _ (s.trans s4) i4, upd_same, ?_, ?_, by rw [List.length_append]; exact Nat.succ_le_succ hl⟩
      · rw [DpAll.len ha]
        exact Nat.lt_of_le_of_lt hl (Nat.lt_of_lt_of_le (show i < 100000 by omega) (by decide))
      · exact DpAll.snoc (dp_keep (fun _ _ q => sqt_put hD4 q) _ _ (hfl d e) hv) (dps_keep (fun _ _ q => sqt_put hD4 q) _ _ fl (dps_keep (fun _ _ q => s4.tup q) _ _ fl ha))
      · intro d' hd'
        rcases List.mem_append.mp hd' with q | q
        · exact hg d' q
        · cases List.mem_singleton.mp q
          exact e
    · exact ⟨acc, ds, s.trans s3, i3, s3.st _ _ nM hacc, dps_keep (fun _ _ q => s3.tup q) _ _ fl ha, hg, by omega⟩
  · rintro H ⟨acc, ds, s, iH, hacc, ha, hg, hl⟩
    exact hd H acc ds s iH hacc ha hg hl
/-! ### data that repr takes -/
structure Sm (D W : Nat) (d : PyData) : Prop where
  ok : okD d = true
  dp : d.depth ≤ D
  wt : d.weight ≤ W
theorem Sm.mono {D W D' W' : Nat} {d : PyData} (x : Sm D W d) (h1 : D ≤ D') (h2 : W ≤ W') : Sm D' W' d := ⟨x.ok, Nat.le_trans x.dp h1, Nat.le_trans x.wt h2⟩
theorem sm_int {i : Int} (h : i.natAbs < 10 ^ 12) : Sm 0 64 (.int i) := ⟨by simp only [okD]; exact decide_eq_true h, by simp [PyData.depth], wt_int h⟩
theorem sm_all {D W : Nat} : ∀ {ds : List PyData}, (∀ d ∈ ds, Sm D W d) → okDs ds = true ∧ PyData.depthAll ds ≤ D ∧ PyData.weightAll ds ≤ ds.length * (W + 2)
  | [], _ => ⟨rfl, by simp [PyData.depthAll], by simp [PyData.weightAll]⟩
  | d :: ds, h => by
    have a := h d List.mem_cons_self
    obtain ⟨b1, b2, b3⟩ := sm_all (ds := ds) fun x hx => h x (List.mem_cons_of_mem _ hx)
    refine ⟨by simp [okDs, a.ok, b1], ?_, ?_⟩
    · have := a.dp
      simp only [PyData.depthAll]
      omega
    · have := a.wt
      simp only [PyData.weightAll, List.length_cons, Nat.add_mul]
      omega
theorem Sm.tuple {D W m : Nat} {ds : List PyData} (h : ∀ d ∈ ds, Sm D W d) (hm : ds.length ≤ m) : Sm (D + 1) (m * (W + 2)) (.tuple ds) := by
  obtain ⟨a, b, c⟩ := sm_all h
  refine ⟨by simpa [okD] using a, ?_, ?_⟩
  · simp only [PyData.depth]
    omega
  · simp only [PyData.weight]
    exact Nat.le_trans c (Nat.mul_le_mul_right _ hm)
theorem Sm.rep {K : PySem.W.Frag} {H : Hp} {x : V} {D W : Nat} {d : PyData} {Q : VK} (s : Sm D W d) (h1 : D ≤ 60) (h2 : W ≤ 2 ^ 20) (hd : Rp K H x d) (q : Q (.str d.shown) H) : rRepr K [x] H Q :=
  ⟨x, d, rfl, hd, s.ok, Nat.le_trans s.dp h1, Nat.le_trans s.wt h2, q⟩
theorem sm_kv {D W : Nat} : ∀ {es : List (Int × PyData)}, (∀ e ∈ es, e.1.natAbs < 10 ^ 12 ∧ Sm D W e.2) → okDk (es.map fun e => (PyData.int e.1, e.2)) = true ∧ PyData.depthKv (es.map fun e => (PyData.int e.1, e.2)) ≤ D ∧ PyData.weightKv (es.map fun e => (PyData.int e.1, e.2)) ≤ es.length * (W + 70)
  | [], _ => ⟨rfl, by simp [PyData.depthKv], by simp [PyData.weightKv]⟩
  | e :: es, h => by
    obtain ⟨a1, a⟩ := h e List.mem_cons_self
    obtain ⟨b1, b2, b3⟩ := sm_kv (es := es) fun x hx => h x (List.mem_cons_of_mem _ hx)
    have i := sm_int a1
    refine ⟨by simp [okDk, a.ok, b1, i.ok], ?_, ?_⟩
    · have := a.dp
      have := i.dp
      simp only [List.map_cons, PyData.depthKv]
      omega
    · have := a.wt
      have := i.wt
      simp only [List.map_cons, PyData.weightKv, List.length_cons, Nat.add_mul] at this ⊢
      omega
/-- what repr is asked of -/
def Rok (K : PySem.W.Frag) (H : Hp) (x : V) (d : PyData) : Prop := Rp K H x d ∧ okD d = true ∧ d.depth ≤ 60 ∧ d.weight ≤ 2 ^ 20
theorem Sm.rok {K : PySem.W.Frag} {H : Hp} {x : V} {D W : Nat} {d : PyData} (s : Sm D W d) (h1 : D ≤ 60) (h2 : W ≤ 2 ^ 20) (hd : Rp K H x d) : Rok K H x d :=
  ⟨hd, s.ok, Nat.le_trans s.dp h1, Nat.le_trans s.wt h2⟩
/-- the whole dict of things -/
theorem ThAt.rok {K : PySem.W.Frag} {H : Hp} {d : Addr} {es : List (Int × PyData)} {kvs : List (Key × V)} (x : ThAt K H d es kvs) {n : Nat} (hk : es.map (·.1) = births n) (hn : n ≤ 100) : Rok K H (.ref d) (PyData.dict (es.map fun e => (PyData.int e.1, e.2))) := by
  obtain ⟨a, b, c⟩ := sm_kv (D := 8) (W := 4000) (es := es) fun e he => by
    have m : e.1 ∈ births n := by rw [← hk]; exact List.mem_map.mpr ⟨e, he, rfl⟩
    have := births_mem.mp m
    exact ⟨by omega, ⟨(x.th e he).ok, (x.th e he).dp, (x.th e he).wt⟩⟩
  have hl : es.length = n := by
    have e := congrArg List.length hk
    rw [List.length_map, births_len] at e
    exact e
  refine ⟨.inr ⟨d, kvs, es, rfl, x.at_, x.ks, x.vs, x.fl, rfl⟩, by simpa [okD] using a, ?_, ?_⟩
  · simp only [PyData.depth]
    omega
  · simp only [PyData.weight]
    refine Nat.le_trans c ?_
    rw [hl]
    exact Nat.le_trans (Nat.mul_le_mul_right _ hn) (by decide)
end Cm

/-! defs that may ask repr, called by name where nothing is under repr -/
namespace Cm
open PySem L2 PySem.Spec PyProof.Rows
structure ClG (P : Program) (w : World) (K : PySem.W.Frag) (mg : Str → Option Value) (base : Heap) (k : Nat) (x : Str) (sp : Sp) : Prop where
  ex : ∃ (f : Addr) (fd : FuncData) (ps : List Str), (∀ vs H Q E, sp vs H Q E → vs.length = ps.length) ∧ LawAt P w K mg base k f fd ps sp ∧ mg x = some (.ref f) ∧ PySem.W.keepIn K (.ref f) = true ∧ Binds K fd ps []
section
variable {P : Program} {w : World} {K : PySem.W.Frag} {mg : Str → Option Value} {base : Heap}
theorem clG_of {x : Str} {st : Stmt} {N ps : List Str} {k : Nat} {sp : Sp} (T : At K mg x st ps) (S : FnScope N ps (defScope st))
    (len : ∀ vs H Q E, sp vs H Q E → vs.length = ps.length)
    (hb : ∀ (f : Addr) (cdv : Value) (A : Around) (outer : List Env) (s : Shared) (H : Hp) (vs : List V) (Q : VK) (E : XK), (A.deeper (envOfC x (defScope st) s.heap.objs.size f cdv)).guards = some [] →
      Room k (A.deeper (envOfC x (defScope st) s.heap.objs.size f cdv)) → sp vs H Q E →
      ∃ t, PSs (cxOf CX0 P w K mg base N x (defScope st) f cdv A outer s H E).nox (defBody st) t ∧ t { nx := fun _ H' => Q .non H', rt := Q } (start N vs) H) :
    ClG P w K mg base (k + 1) x sp := by
  obtain ⟨f, fd, F, hm, b⟩ := T.ex
  exact ⟨f, fd, ps, len, lawAt_of F S len fun cdv A outer s H vs Q E hg => hb f cdv A outer s H vs Q E hg, hm, F.kp, b⟩
end
section
variable {X : Cx} {j k : Nat} {x : Str} {sp : Sp} {e : Expr} {es : List Expr} {t : TA} {p pos : Pos}
theorem pe_cG (c : ClG X.prog X.w X.K X.mg X.base k x sp) (hgd : X.A.guards = some []) (hr : Room j X.A) (hk : k ≤ j) (hg : Gl X x) (ha : PA X (e :: es) t)
    (hdb : (x == ("__debug__" : Str)) = false := by decide) (he : starEach (e :: es) X.env = (false, eval e X.env) :: starEach es X.env := by rfl)
    (hpl : (backTo pos (starEach es X.env)).any (·.1) = false := by rfl) : PE X (.Call (.Name x p) (e :: es) [] pos) (tCall sp [] E0 t) := by
  obtain ⟨f, fd, ps, len, F, hm, kp, b⟩ := c.ex
  refine ⟨fun pins s σ H Q I h => ?_⟩
  refine wpAny_Call_Name_kw (ld_glob I hg hm ?_ hdb)
  refine PySem.W.callWith_K (h₀ := X.base) I.ok.mod.kin kp (thn (ha.run pos pins s σ H _ I h) fun us s1 ⟨vs, H1, I1, r, q⟩ => ⟨I1.kIn, ?_⟩) he hpl
  have q' : sp vs H1 Q E0 := by
    have q0 : sp (vs ++ []) H1 Q E0 := q
    rwa [List.append_nil] at q0
  have hl : us.length = ps.length := by rw [← r.length]; exact len _ _ _ _ q'
  have hb := b s1 us I1.kIn (by rw [List.append_nil]; exact hl)
  rw [List.append_nil] at hb
  refine wpAny_call (codeAny_mono (F X.A X.stack s1 H1 ⟨us, []⟩ us vs Q E0 hgd (hr.mono hk) I1.env0 hb r q') fun r s' hq => ?_)
  cases r with
  | error e => exact pass0 pins σ H1 s1 e s' I1 hq
  | ok fl =>
    cases fl with
    | ret u => exact I1.after hq
    | next => exact False.elim hq
    | brk => exact False.elim hq
    | cont => exact False.elim hq
end
/-! ### a walk over a list or a tuple -/
def iSeq (K : PySem.W.Frag) (tl : TE) : TI := fun σ H R => tl σ H fun x H1 => ∃ a, x = .ref a ∧ ((∃ xs, SqL K H1 a xs) ∧ R (Itl K a) H1 ∨ (∃ xs, SqT K H1 a xs) ∧ R (Itt K a) H1)
theorem pi_seq {X : Cx} {tg l : Expr} {tl : TE} (hl : PE X l tl) : PI X tg l (iSeq X.K tl) := by
  refine ⟨fun pins s σ H R I h => ?_⟩
  refine thn (hl.run pins s σ H _ I h) fun v s1 ⟨x, H1, I1, r1, q1⟩ => ?_
  obtain ⟨a, rfl, q1⟩ := q1
  cases r1
  have fp : ∀ b ∈ [s1.heap.objs.size], b = s1.heap.objs.size := fun b hb => by simpa using hb
  rcases q1 with ⟨⟨xs, hq⟩, q⟩ | ⟨⟨xs, hq⟩, q⟩
  · obtain ⟨its, rv, p, hz⟩ := I1.list hq
    refine wpAny_pyIter_list p.isList ?_
    refine ⟨_, _, _, _, H1, rfl, I1.kept (t' := s1.toks) fun b o e => Heap.get?_push_of_some _ e, turn_list a _, ⟨_, Heap.get?_push_size _ rfl, rfl, rfl⟩, fun b hb => ?_, q⟩
    cases fp b hb
    exact I1.fpOk (Nat.le_refl _) (I1.hok.fresh (Nat.le_refl _))
  · obtain ⟨its, rv, p, hz⟩ := I1.tuple hq
    refine wpAny_pyIter_tuple (show s1.heap.IsTuple a its.toArray from p) ?_
    refine ⟨_, _, _, _, H1, rfl, I1.kept (t' := s1.toks) fun b o e => Heap.get?_push_of_some _ e, turn_tuple a _, ⟨_, Heap.get?_push_size _ rfl, rfl, rfl⟩, fun b hb => ?_, q⟩
    cases fp b hb
    exact I1.fpOk (Nat.le_refl _) (I1.hok.fresh (Nat.le_refl _))
theorem ks_tupA {X : Cx} {K : PySem.W.Frag} (h : X.K = K := by rfl) : SlR X (rSlA K) := by subst h; exact sl_tupA
theorem ne_same (x : V) : (!decide (x = x)) = false := by simp
theorem tyx_tup {K : PySem.W.Frag} {H : Hp} {a : Addr} {xs : List V} (h : SqT K H a xs) : TyX K H (.ref a) (.type "tuple") := by
  rcases h with (h | ⟨o, h⟩) | ⟨o, its, n, e, c, _⟩
  · exact .base (.tup h)
  · exact .fTuple h
  · exact .kTuple e c
theorem kit_tup {K : PySem.W.Frag} : PySem.W.kitOne K (.type "tuple") (.type "tuple") = some true := by rfl
end Cm

/-! a for over a list or a tuple, as one -/
namespace Cm
open PySem L2 PySem.Spec PyProof.Rows
theorem for_seq {K : PySem.W.Frag} {tl : TE} {g : TG} {tb : TS} {D : Ends} {σ : L2.St} {H Hb : Hp} {a : Addr} {xs : List V} (ht : ∀ Q : VK, Q (.ref a) H → tl σ H Q) (ha : SqL K Hb a xs ∨ SqT K Hb a xs)
    (Pv : Nat → L2.St → Hp → Prop) (h0 : Pv 0 σ H) (hG : ∀ i σ H', Pv i σ H' → Same Hb H')
    (hs : ∀ i x σ H1, i < xs.length → Pv i σ H1 → xs[i]? = some x → g x σ H1 fun σ2 H2 => tb { D with nx := Pv (i + 1), ct := Pv (i + 1), bk := D.nx } σ2 H2) (hd : ∀ σ H1, Pv xs.length σ H1 → D.nx σ H1) :
    tFor (iSeq K tl) g tb D σ H := by
  refine ht _ ⟨a, rfl, ?_⟩
  rcases ha with ha | ha
  · refine .inl ⟨⟨_, (hG _ _ _ h0).seq ha⟩, for_it (walk_list (xs := xs)) Pv h0 (fun i σ H' hi z => (hG i σ H' z).seq ha) (fun i x σ H1 H2 hi z y => ?_) hd⟩
    obtain ⟨rfl, e⟩ := y
    exact hs i x σ _ hi z e
  · refine .inr ⟨⟨_, sqt_same (hG _ _ _ h0) ha⟩, for_it (walk_tup (xs := xs)) Pv h0 (fun i σ H' hi z => sqt_same (hG i σ H' z) ha) (fun i x σ H1 H2 hi z y => ?_) hd⟩
    obtain ⟨rfl, e⟩ := y
    exact hs i x σ _ hi z e
end Cm

/-! trees of forms: a head and its parts; how they lie in tuples -/
namespace Cm
open PySem L2 PySem.Spec PyProof.Rows
inductive Hd where
  | num (i : Int)
  | name (x : Str)
  | lit (w : Str)
  | one (w x : Str)
  | fn (xs : List Str)
  | bind (w : Str) (xs : List Str)
  | doo
  | call
  | op (o : Str)
  | plain (w : Str)
inductive Tr where
  | mk (h : Hd) (ps : List Tr)
def encs (xs : List Str) : PyData := .tuple (xs.map PyData.str)
def rowD (p : Str × PyData) : PyData := .tuple [.str p.1, p.2]
def encH : Hd → List PyData → PyData
  | .num i, _ => .tuple [.str "number", .int i]
  | .name x, _ => .tuple [.str "name", .str x]
  | .lit w, _ => .tuple [.str w]
  | .one w x, ds => .tuple (.str w :: .str x :: ds)
  | .fn xs, ds => .tuple (.str "fn" :: encs xs :: ds)
  | .bind w xs, ds => .tuple (.str w :: .tuple ((xs.zip ds).map rowD) :: ds.drop xs.length)
  | .doo, ds => .tuple [.str "do", .tuple ds]
  | .call, ds => .tuple (.str "call" :: (ds.take 1 ++ [.tuple (ds.drop 1)]))
  | .op o, ds => .tuple [.str "op", .str o, .tuple ds]
  | .plain w, ds => .tuple (.str w :: ds)
mutual
def Tr.enc : Tr → PyData
  | .mk h ps => encH h (Tr.encL ps)
def Tr.encL : List Tr → List PyData
  | [] => []
  | t :: ts => t.enc :: Tr.encL ts
end
mutual
def Tr.dep : Tr → Nat
  | .mk _ ps => Tr.deps ps + 1
def Tr.deps : List Tr → Nat
  | [] => 0
  | t :: ts => max t.dep (Tr.deps ts)
end
def litW : List Str := ["true", "false", "none", "ask"]
def oneW : List Str := ["set", "keep", "once", "take"]
def bindW : List Str := ["let", "rec"]
def plainW : List Str := ["if", "mark", "wind", "show"]
abbrev sok (x : Str) : Prop := PyData.strOk x = true
def hok : Hd → Nat → Prop
  | .num _, n => n = 0
  | .name x, n => n = 0 ∧ sok x
  | .lit w, n => n = 0 ∧ w ∈ litW
  | .one w x, n => n = 1 ∧ w ∈ oneW ∧ sok x
  | .fn xs, n => n = 1 ∧ xs.length ≤ 100 ∧ ∀ x ∈ xs, sok x
  | .bind w xs, n => n = xs.length + 1 ∧ w ∈ bindW ∧ ∀ x ∈ xs, sok x
  | .doo, _ => True
  | .call, n => 1 ≤ n
  | .op o, _ => sok o
  | .plain w, _ => w ∈ plainW
mutual
def Tr.ok : Tr → Prop
  | .mk h ps => hok h ps.length ∧ ps.length ≤ 11 ∧ Tr.oks ps
def Tr.oks : List Tr → Prop
  | [] => True
  | t :: ts => t.ok ∧ Tr.oks ts
end
theorem encL_map : ∀ ps : List Tr, Tr.encL ps = ps.map Tr.enc
  | [] => rfl
  | t :: ts => by
    show t.enc :: Tr.encL ts = _
    rw [encL_map ts]
    rfl
theorem encL_len (ps : List Tr) : (Tr.encL ps).length = ps.length := by rw [encL_map, List.length_map]
theorem deps_le {n : Nat} : ∀ {ps : List Tr}, Tr.deps ps ≤ n ↔ ∀ t ∈ ps, t.dep ≤ n
  | [] => by simp [Tr.deps]
  | t :: ts => by
    have := deps_le (n := n) (ps := ts)
    show max t.dep (Tr.deps ts) ≤ n ↔ _
    rw [Nat.max_le, this]
    simp
theorem oks_iff : ∀ {ps : List Tr}, Tr.oks ps ↔ ∀ t ∈ ps, t.ok
  | [] => by simp [Tr.oks]
  | t :: ts => by
    show t.ok ∧ Tr.oks ts ↔ _
    rw [oks_iff]
    simp
theorem dep_mk {h : Hd} {ps : List Tr} {n : Nat} : (Tr.mk h ps).dep ≤ n + 1 ↔ ∀ t ∈ ps, t.dep ≤ n := by
  show Tr.deps ps + 1 ≤ n + 1 ↔ _
  rw [← deps_le]
  omega
/-- trees by their depth -/
theorem tr_ind {P : Tr → Prop} (h : ∀ hd ps, (∀ t ∈ ps, P t) → P (.mk hd ps)) (t : Tr) : P t := by
  have key : ∀ n, ∀ t : Tr, t.dep ≤ n → P t := by
    intro n
    induction n with
    | zero =>
      intro t ht
      cases t with
      | mk hd ps => exact absurd ht (by show ¬ (Tr.deps ps + 1 ≤ 0); omega)
    | succ n ih =>
      intro t ht
      cases t with
      | mk hd ps => exact h hd ps fun t m => ih t (dep_mk.mp ht t m)
  exact key t.dep t (Nat.le_refl _)
theorem flat_strs (xs : List Str) : flatDs (xs.map PyData.str) = true := flatDs_of _ fun d hd => by
  obtain ⟨x, _, rfl⟩ := List.mem_map.mp hd
  rfl
theorem flat_encH {h : Hd} {ds : List PyData} (f : flatDs ds = true) : flatD (encH h ds) = true := by
  have fd := flatDs_all f
  cases h with
  | num i => rfl
  | name x => rfl
  | lit w => rfl
  | one w x => show flatDs (_ :: _ :: ds) = true; simpa [flatDs, flatD] using f
  | fn xs => show flatDs (_ :: encs xs :: ds) = true; simp [flatDs, flatD, encs, flat_strs, f]
  | bind w xs =>
    show flatDs (_ :: _ :: ds.drop xs.length) = true
    have h1 : flatDs (ds.drop xs.length) = true := flatDs_of _ fun d hd => fd d (List.mem_of_mem_drop hd)
    have h2 : flatDs ((xs.zip ds).map rowD) = true := flatDs_of _ fun d hd => by
      obtain ⟨p, hp, rfl⟩ := List.mem_map.mp hd
      have := fd p.2 (List.of_mem_zip (show (p.1, p.2) ∈ xs.zip ds from hp)).2
      simp [rowD, flatD, flatDs, this]
    simp [flatDs, flatD, h1, h2]
  | doo => show flatDs [_, .tuple ds] = true; simp [flatDs, flatD, f]
  | call =>
    show flatDs (_ :: (ds.take 1 ++ [.tuple (ds.drop 1)])) = true
    refine flatDs_of _ fun d hd => ?_
    rcases List.mem_cons.mp hd with rfl | hd
    · rfl
    rcases List.mem_append.mp hd with hd | hd
    · exact fd d (List.mem_of_mem_take hd)
    · cases List.mem_singleton.mp hd
      show flatDs (ds.drop 1) = true
      exact flatDs_of _ fun d hd => fd d (List.mem_of_mem_drop hd)
  | op o => show flatDs [_, _, .tuple ds] = true; simp [flatDs, flatD, f]
  | plain w => show flatDs (_ :: ds) = true; simpa [flatDs, flatD] using f
theorem flat_enc (t : Tr) : flatD t.enc = true := by
  refine tr_ind (P := fun t => flatD t.enc = true) (fun hd ps ih => ?_) t
  show flatD (encH hd (Tr.encL ps)) = true
  refine flat_encH (flatDs_of _ fun d hd => ?_)
  rw [encL_map] at hd
  obtain ⟨t, m, rfl⟩ := List.mem_map.mp hd
  exact ih t m
theorem flat_encL (ps : List Tr) : flatDs (Tr.encL ps) = true := flatDs_of _ fun d hd => by
  rw [encL_map] at hd
  obtain ⟨t, m, rfl⟩ := List.mem_map.mp hd
  exact flat_enc t
/-! ### that trees can be compared -/
theorem layAll_of : ∀ {ds : List PyData}, (∀ d ∈ ds, PyData.canLay0 d = true) → PyData.canLayAll0 ds = true
  | [], _ => rfl
  | d :: ds, h => by
    show (PyData.canLay0 d && PyData.canLayAll0 ds) = true
    rw [h d List.mem_cons_self, layAll_of fun x hx => h x (List.mem_cons_of_mem _ hx)]
    rfl
theorem depAll_le {n : Nat} : ∀ {ds : List PyData}, (∀ d ∈ ds, d.depth ≤ n) → PyData.depthAll ds ≤ n
  | [], _ => by simp [PyData.depthAll]
  | d :: ds, h => by
    have h1 := h d List.mem_cons_self
    have h2 := depAll_le (ds := ds) fun x hx => h x (List.mem_cons_of_mem _ hx)
    simp only [PyData.depthAll]
    omega
theorem lay_tup {ds : List PyData} (h : ∀ d ∈ ds, PyData.canLay0 d = true) : PyData.canLay0 (.tuple ds) = true := layAll_of h
theorem dep_tup {ds : List PyData} {n : Nat} (h : ∀ d ∈ ds, d.depth ≤ n) : PyData.depth (.tuple ds) ≤ n + 1 := by
  have := depAll_le h
  simp only [PyData.depth]
  omega
theorem dep0_str (x : Str) (n : Nat) : PyData.depth (.str x) ≤ n := by simp [PyData.depth]
theorem dep0_int (x : Int) (n : Nat) : PyData.depth (.int x) ≤ n := by simp [PyData.depth]
/-- a text that may stand in data, and how deep data is -/
structure Lay (n : Nat) (d : PyData) : Prop where
  lay : PyData.canLay0 d = true
  dep : d.depth ≤ n
theorem Lay.mono {n m : Nat} {d : PyData} (h : Lay n d) (k : n ≤ m) : Lay m d := ⟨h.lay, Nat.le_trans h.dep k⟩
theorem Lay.str {x : Str} (h : sok x) (n : Nat) : Lay n (.str x) := ⟨h, dep0_str x n⟩
theorem Lay.int (i : Int) (n : Nat) : Lay n (.int i) := ⟨rfl, dep0_int i n⟩
theorem Lay.tup {n : Nat} {ds : List PyData} (h : ∀ d ∈ ds, Lay n d) : Lay (n + 1) (.tuple ds) := ⟨lay_tup fun d m => (h d m).lay, dep_tup fun d m => (h d m).dep⟩
theorem Lay.lst {n : Nat} {ds : List PyData} (h : ∀ d ∈ ds, Lay n d) : Lay (n + 1) (.list ds) := by
  have h1 : PyData.canLay0 (.list ds) = true := layAll_of fun d m => (h d m).lay
  have h2 := depAll_le fun d m => (h d m).dep
  refine ⟨h1, ?_⟩
  simp only [PyData.depth]
  omega
theorem Lay.sh {n : Nat} {d : PyData} (h : Lay n d) (k : n ≤ 64) : SeqAt.shaped d = true := by
  unfold SeqAt.shaped
  rw [h.lay, decide_eq_true (Nat.le_trans h.dep k)]
  rfl
theorem words_sok : ∀ w ∈ litW ++ oneW ++ bindW ++ plainW, sok w := by
  intro w hw
  unfold litW oneW bindW plainW at hw
  simp only [List.cons_append, List.nil_append, List.mem_cons, List.not_mem_nil, or_false] at hw
  rcases hw with rfl | rfl | rfl | rfl | rfl | rfl | rfl | rfl | rfl | rfl | rfl | rfl | rfl | rfl <;> decide +kernel
theorem mem4 {α : Type} {P : α → Prop} {a b c d : α} (ha : P a) (hb : P b) (hc : P c) (hd : P d) : ∀ x ∈ [a, b, c, d], P x := by
  intro x hx
  simp only [List.mem_cons, List.not_mem_nil, or_false] at hx
  rcases hx with rfl | rfl | rfl | rfl <;> assumption
theorem lay_strs {xs : List Str} (h : ∀ x ∈ xs, sok x) (n : Nat) : Lay (n + 1) (encs xs) := Lay.tup fun d hd => by
  obtain ⟨x, m, rfl⟩ := List.mem_map.mp hd
  exact .str (h x m) n
theorem lay_encH {h : Hd} {ds : List PyData} {n : Nat} (o : hok h ds.length) (f : ∀ d ∈ ds, Lay n d) : Lay (n + 3) (encH h ds) := by
  have up : ∀ d ∈ ds, Lay (n + 2) d := fun d m => (f d m).mono (by omega)
  have hw : ∀ w, (w ∈ litW ∨ w ∈ oneW ∨ w ∈ bindW ∨ w ∈ plainW) → Lay (n + 2) (.str w) := fun w m => .str (words_sok w (by
    simp only [List.mem_append]
    rcases m with m | m | m | m
    · exact .inl (.inl (.inl m))
    · exact .inl (.inl (.inr m))
    · exact .inl (.inr m)
    · exact .inr m)) _
  have c : ∀ {d : PyData} {ds : List PyData}, Lay (n + 2) d → (∀ e ∈ ds, Lay (n + 2) e) → ∀ e ∈ d :: ds, Lay (n + 2) e := fun a b e m => by
    rcases List.mem_cons.mp m with rfl | m
    · exact a
    · exact b e m
  have nil : ∀ e ∈ ([] : List PyData), Lay (n + 2) e := fun e m => by cases m
  have S : ∀ w : Str, sok w → Lay (n + 2) (.str w) := fun w h => .str h _
  cases h with
  | num i => exact .tup (c (S "number" (by decide +kernel)) (c (.int i _) nil))
  | name x => exact .tup (c (S "name" (by decide +kernel)) (c (S x o.2) nil))
  | lit w => exact .tup (c (hw w (.inl o.2)) nil)
  | one w x => exact .tup (c (hw w (.inr (.inl o.2.1))) (c (S x o.2.2) up))
  | fn xs => exact .tup (c (S "fn" (by decide +kernel)) (c (lay_strs o.2.2 (n + 1)) up))
  | bind w xs =>
    refine .tup (c (hw w (.inr (.inr (.inl o.2.1)))) (c (Lay.tup fun d hd => ?_) fun d hd => up d (List.mem_of_mem_drop hd)))
    obtain ⟨p, hp, rfl⟩ := List.mem_map.mp hd
    have hz := List.of_mem_zip (show (p.1, p.2) ∈ xs.zip ds from hp)
    refine Lay.tup fun d hd => ?_
    simp only [List.mem_cons, List.not_mem_nil, or_false] at hd
    rcases hd with rfl | rfl
    · exact .str (o.2.2 _ hz.1) _
    · exact f _ hz.2
  | doo => exact .tup (c (S "do" (by decide +kernel)) (c (Lay.tup (fun d m => (f d m).mono (by omega))) nil))
  | call =>
    refine .tup (c (S "call" (by decide +kernel)) fun d hd => ?_)
    rcases List.mem_append.mp hd with hd | hd
    · exact up d (List.mem_of_mem_take hd)
    · cases List.mem_singleton.mp hd
      exact Lay.tup fun d m => (f d (List.mem_of_mem_drop m)).mono (by omega)
  | op o' => exact .tup (c (S "op" (by decide +kernel)) (c (S o' o) (c (Lay.tup (fun d m => (f d m).mono (by omega))) nil)))
  | plain w => exact .tup (c (hw w (.inr (.inr (.inr o)))) up)
theorem lay_enc : ∀ (n : Nat) (t : Tr), t.ok → t.dep ≤ n → Lay (3 * n) t.enc := by
  intro n
  induction n with
  | zero =>
    intro t _ h
    cases t with
    | mk hd ps => exact absurd h (by show ¬ (Tr.deps ps + 1 ≤ 0); omega)
  | succ n ih =>
    intro t o h
    cases t with
    | mk hd ps =>
      have o' : hok hd ps.length ∧ ps.length ≤ 11 ∧ Tr.oks ps := o
      have : Lay (3 * n + 3) (encH hd (Tr.encL ps)) := lay_encH (by rw [encL_len]; exact o'.1) fun d hd => by
        rw [encL_map] at hd
        obtain ⟨t, m, rfl⟩ := List.mem_map.mp hd
        exact ih t (oks_iff.mp o'.2.2 t m) (dep_mk.mp h t m)
      exact this
end Cm

/-! x in (written words); the items of a tree's tuple -/
namespace Cm
open PySem L2 PySem.Spec PyProof.Rows
/-- written texts -/
inductive StrEs : List Expr → List Str → Prop where
  | nil : StrEs [] []
  | cons {x : Str} {k : Nat} {p : Pos} {es : List Expr} {xs : List Str} (h : StrEs es xs) : StrEs (.Constant (.str x) k p :: es) (x :: xs)
def tVals (vs : List V) : TA := fun _ H Q => Q vs H
section
variable {X : Cx} {e : Expr} {te : TE} {es : List Expr} {ws : List Str} {pos p2 : Pos} {n : Nat}
theorem pa_strs (h : StrEs es ws) : PA X es (tVals (ws.map V.str)) := by
  induction h with
  | nil => exact ⟨fun pos pins s σ H Q I h => pa_nil.run pos pins s σ H Q I h⟩
  | @cons x k p es xs h ih =>
    refine ⟨fun pos pins s σ H Q I q => (pa_cons (te := tC (.str x)) pe_str ih (by rfl)).run pos pins s σ H Q I ?_⟩
    exact q
/-- x in ('a', 'b', ..) -/
def tInW (te : TE) (ws : List Str) : TT := fun σ H Q => te σ H fun x H1 => flatV x = true ∧ ∀ H2, Same H1 H2 → Q (inV x (ws.map V.str)) H2
theorem flat_strV (ws : List Str) : (ws.map V.str).all flatV = true := by
  rw [List.all_eq_true]
  intro x hx
  obtain ⟨w, _, rfl⟩ := List.mem_map.mp hx
  rfl
theorem pt_inW (ha : PE X e te) (he : StrEs es ws) (hl : ws.length ≤ sizeLine) (hm : behindInMarks .In (.Tuple es n p2) = false) : PT X (.Compare e [.In] [.Tuple es n p2] pos) (tInW te ws) := by
  refine ⟨fun pins s σ H Q I h => ?_⟩
  refine wpAny_isTrue_Compare1 (thn (ha.run pins s σ H _ I h) fun v s1 ⟨x, H1, I1, r1, fx, q1⟩ => thn ((pe_tup (pa_strs he)).run pins s1 σ H1 (fun y H2 => y ≠ .non ∧ ∃ p, y = .ref p ∧ H2 p = some (.tup (ws.map V.str)) ∧ Same H1 H2) I1 ?_) fun u s2 ⟨y, H2, I2, r2, _, p, ey, hp, s12⟩ =>
    thn (op_in_seq pins s2 σ H2 x y v u (fun z H3 => ∃ k, z = .bl k ∧ Q k H3) I2 r1 r2 ⟨p, _, ey, .inr (.inl (.inl hp)), fx, flat_strV ws, _, rfl, q1 H2 s12⟩) fun c s3 ⟨z, H3, I3, r3, k, e, q3⟩ => ?_) hm
  · refine ⟨by rw [List.length_map]; exact hl, fun p hp => ⟨(fun z => nomatch z), p, rfl, upd_same, same_new hp⟩⟩
  · subst e
    cases r3
    exact wpAny_truthy_bool ⟨H3, I3, q3⟩
end
/-- x in ('a', ..) as a value -/
def tInWV (te : TE) (ws : List Str) : TE := fun σ H Q => te σ H fun x H1 => flatV x = true ∧ ∀ H2, Same H1 H2 → Q (.bl (inV x (ws.map V.str))) H2
section
variable {X : Cx} {e : Expr} {te : TE} {es : List Expr} {ws : List Str} {pos p2 : Pos} {n : Nat}
theorem pe_inW (ha : PE X e te) (he : StrEs es ws) (hl : ws.length ≤ sizeLine) (hm : behindInMarks .In (.Tuple es n p2) = false) : PE X (.Compare e [.In] [.Tuple es n p2] pos) (tInWV te ws) := by
  refine ⟨fun pins s σ H Q I h => ?_⟩
  refine wpAny_Compare1 (thn (ha.run pins s σ H _ I h) fun v s1 ⟨x, H1, I1, r1, fx, q1⟩ => thn ((pe_tup (pa_strs he)).run pins s1 σ H1 (fun y H2 => ∃ p, y = .ref p ∧ H2 p = some (.tup (ws.map V.str)) ∧ Same H1 H2) I1 ?_) fun u s2 ⟨y, H2, I2, r2, p, ey, hp, s12⟩ =>
    op_in_seq pins s2 σ H2 x y v u Q I2 r1 r2 ⟨p, _, ey, .inr (.inl (.inl hp)), fx, flat_strV ws, q1 H2 s12⟩) hm
  exact ⟨by rw [List.length_map]; exact hl, fun p hp => ⟨p, rfl, upd_same, same_new hp⟩⟩
end
/-! ### the items of a tree's tuple -/
def wd : Hd → Str
  | .num _ => "number"
  | .name _ => "name"
  | .lit w => w
  | .one w _ => w
  | .fn _ => "fn"
  | .bind w _ => w
  | .doo => "do"
  | .call => "call"
  | .op _ => "op"
  | .plain w => w
def Items (K : PySem.W.Frag) (H : Hp) (ds : List PyData) : Hd → List V → Prop
  | .num i, its => its = [.str "number", .int i]
  | .name x, its => its = [.str "name", .str x]
  | .lit w, its => its = [.str w]
  | .one w x, its => ∃ vs, its = .str w :: .str x :: vs ∧ DpAll K H vs ds
  | .fn xs, its => ∃ q vs, its = .str "fn" :: .ref q :: vs ∧ SqT K H q (xs.map V.str) ∧ DpAll K H vs ds
  | .bind w xs, its => ∃ q rows vs, its = .str w :: .ref q :: vs ∧ SqT K H q rows ∧ DpAll K H rows ((xs.zip ds).map rowD) ∧ DpAll K H vs (ds.drop xs.length)
  | .doo, its => ∃ q vs, its = [.str "do", .ref q] ∧ SqT K H q vs ∧ DpAll K H vs ds
  | .call, its => ∃ q us vs, its = .str "call" :: (us ++ [.ref q]) ∧ DpAll K H us (ds.take 1) ∧ SqT K H q vs ∧ DpAll K H vs (ds.drop 1)
  | .op o, its => ∃ q vs, its = [.str "op", .str o, .ref q] ∧ SqT K H q vs ∧ DpAll K H vs ds
  | .plain w, its => ∃ vs, its = .str w :: vs ∧ DpAll K H vs ds
theorem dp_str {K : PySem.W.Frag} {H : Hp} {v : V} {x : Str} (h : Dp K H v (.str x)) : v = .str x := by cases h; rfl
theorem dp_int {K : PySem.W.Frag} {H : Hp} {v : V} {x : Int} (h : Dp K H v (.int x)) : v = .int x := by cases h; rfl
theorem dp_tup {K : PySem.W.Frag} {H : Hp} {v : V} {ds : List PyData} (h : Dp K H v (.tuple ds)) : ∃ a its, v = .ref a ∧ SqT K H a its ∧ DpAll K H its ds := by
  cases h with
  | @tup a its ds hs ha => exact ⟨a, its, rfl, hs, ha⟩
theorem dpAll_strs_inv {K : PySem.W.Frag} {H : Hp} : ∀ {xs : List Str} {vs : List V}, DpAll K H vs (xs.map PyData.str) → vs = xs.map V.str
  | [], _, h => by cases h; rfl
  | x :: xs, _, h => by
    cases h with
    | cons h1 h2 => rw [dp_str h1, dpAll_strs_inv h2]; rfl
theorem dpAll_strs {K : PySem.W.Frag} {H : Hp} : ∀ xs : List Str, DpAll K H (xs.map V.str) (xs.map PyData.str)
  | [] => .nil
  | x :: xs => .cons (.str x) (dpAll_strs xs)
theorem dpAll_split {K : PySem.W.Frag} {H : Hp} : ∀ {ds es : List PyData} {vs : List V}, DpAll K H vs (ds ++ es) → ∃ us ws, vs = us ++ ws ∧ DpAll K H us ds ∧ DpAll K H ws es
  | [], es, vs, h => ⟨[], vs, rfl, .nil, h⟩
  | d :: ds, es, vs, h => by
    cases h with
    | cons h1 h2 =>
      obtain ⟨us, ws, rfl, a, b⟩ := dpAll_split h2
      exact ⟨_ :: us, ws, rfl, .cons h1 a, b⟩
theorem view {K : PySem.W.Frag} {H : Hp} {v : V} {h : Hd} {ds : List PyData} (x : Dp K H v (encH h ds)) : ∃ a its, v = .ref a ∧ SqT K H a its ∧ Items K H ds h its := by
  cases h with
  | num i =>
    obtain ⟨a, its, rfl, hs, ha⟩ := dp_tup x
    cases ha with
    | cons h1 h2 => cases h2 with
      | cons h3 h4 =>
        cases h4
        exact ⟨a, _, rfl, hs, by rw [dp_str h1, dp_int h3]; rfl⟩
  | name i =>
    obtain ⟨a, its, rfl, hs, ha⟩ := dp_tup x
    cases ha with
    | cons h1 h2 => cases h2 with
      | cons h3 h4 =>
        cases h4
        exact ⟨a, _, rfl, hs, by rw [dp_str h1, dp_str h3]; rfl⟩
  | lit i =>
    obtain ⟨a, its, rfl, hs, ha⟩ := dp_tup x
    cases ha with
    | cons h1 h2 =>
      cases h2
      exact ⟨a, _, rfl, hs, by rw [dp_str h1]; rfl⟩
  | one w i =>
    obtain ⟨a, its, rfl, hs, ha⟩ := dp_tup x
    cases ha with
    | cons h1 h2 => cases h2 with
      | cons h3 h4 => exact ⟨a, _, rfl, hs, _, by rw [dp_str h1, dp_str h3], h4⟩
  | fn xs =>
    obtain ⟨a, its, rfl, hs, ha⟩ := dp_tup x
    cases ha with
    | cons h1 h2 => cases h2 with
      | cons h3 h4 =>
        obtain ⟨q, vs, rfl, hq, hv⟩ := dp_tup h3
        rw [dpAll_strs_inv hv] at hq
        exact ⟨a, _, rfl, hs, q, _, by rw [dp_str h1], hq, h4⟩
  | bind w xs =>
    obtain ⟨a, its, rfl, hs, ha⟩ := dp_tup x
    cases ha with
    | cons h1 h2 => cases h2 with
      | cons h3 h4 =>
        obtain ⟨q, vs, rfl, hq, hv⟩ := dp_tup h3
        exact ⟨a, _, rfl, hs, q, vs, _, by rw [dp_str h1], hq, hv, h4⟩
  | doo =>
    obtain ⟨a, its, rfl, hs, ha⟩ := dp_tup x
    cases ha with
    | cons h1 h2 => cases h2 with
      | cons h3 h4 =>
        cases h4
        obtain ⟨q, vs, rfl, hq, hv⟩ := dp_tup h3
        exact ⟨a, _, rfl, hs, q, vs, by rw [dp_str h1], hq, hv⟩
  | call =>
    obtain ⟨a, its, rfl, hs, ha⟩ := dp_tup x
    cases ha with
    | cons h1 h2 =>
      obtain ⟨us, ws, rfl, h3, h4⟩ := dpAll_split h2
      cases h4 with
      | cons h5 h6 =>
        cases h6
        obtain ⟨q, vs, rfl, hq, hv⟩ := dp_tup h5
        exact ⟨a, _, rfl, hs, q, us, vs, by rw [dp_str h1], h3, hq, hv⟩
  | op o =>
    obtain ⟨a, its, rfl, hs, ha⟩ := dp_tup x
    cases ha with
    | cons h1 h2 => cases h2 with
      | cons h3 h4 => cases h4 with
        | cons h5 h6 =>
          cases h6
          obtain ⟨q, vs, rfl, hq, hv⟩ := dp_tup h5
          exact ⟨a, _, rfl, hs, q, vs, by rw [dp_str h1, dp_str h3], hq, hv⟩
  | plain w =>
    obtain ⟨a, its, rfl, hs, ha⟩ := dp_tup x
    cases ha with
    | cons h1 h2 => exact ⟨a, _, rfl, hs, _, by rw [dp_str h1], h2⟩
theorem unview {K : PySem.W.Frag} {H : Hp} {a : Addr} {its : List V} {h : Hd} {ds : List PyData} (hs : SqT K H a its) (x : Items K H ds h its) : Dp K H (.ref a) (encH h ds) := by
  cases h with
  | num i => obtain rfl := (show its = _ from x); exact .tup hs (.cons (.str _) (.cons (.int _) .nil))
  | name i => obtain rfl := (show its = _ from x); exact .tup hs (.cons (.str _) (.cons (.str _) .nil))
  | lit i => obtain rfl := (show its = _ from x); exact .tup hs (.cons (.str _) .nil)
  | one w i => obtain ⟨vs, rfl, hv⟩ := x; exact .tup hs (.cons (.str _) (.cons (.str _) hv))
  | fn xs => obtain ⟨q, vs, rfl, hq, hv⟩ := x; exact .tup hs (.cons (.str _) (.cons (.tup hq (dpAll_strs xs)) hv))
  | bind w xs => obtain ⟨q, rows, vs, rfl, hq, hr, hv⟩ := x; exact .tup hs (.cons (.str _) (.cons (.tup hq hr) hv))
  | doo => obtain ⟨q, vs, rfl, hq, hv⟩ := x; exact .tup hs (.cons (.str _) (.cons (.tup hq hv) .nil))
  | call => obtain ⟨q, us, vs, rfl, hu, hq, hv⟩ := x; exact .tup hs (.cons (.str _) (DpAll.app hu (.cons (.tup hq hv) .nil)))
  | op o => obtain ⟨q, vs, rfl, hq, hv⟩ := x; exact .tup hs (.cons (.str _) (.cons (.str _) (.cons (.tup hq hv) .nil)))
  | plain w => obtain ⟨vs, rfl, hv⟩ := x; exact .tup hs (.cons (.str _) hv)
theorem Items.head {K : PySem.W.Frag} {H : Hp} {h : Hd} {ds : List PyData} {its : List V} (x : Items K H ds h its) : atI its 0 = some (.str (wd h)) := by
  refine atI_nat (j := 0) ?_
  cases h with
  | num i => obtain rfl := (show its = _ from x); rfl
  | name i => obtain rfl := (show its = _ from x); rfl
  | lit i => obtain rfl := (show its = _ from x); rfl
  | one w i => obtain ⟨vs, rfl, _⟩ := x; rfl
  | fn xs => obtain ⟨q, vs, rfl, _⟩ := x; rfl
  | bind w xs => obtain ⟨q, rows, vs, rfl, _⟩ := x; rfl
  | doo => obtain ⟨q, vs, rfl, _⟩ := x; rfl
  | call => obtain ⟨q, us, vs, rfl, _⟩ := x; rfl
  | op o => obtain ⟨q, vs, rfl, _⟩ := x; rfl
  | plain w => obtain ⟨vs, rfl, _⟩ := x; rfl
theorem Items.same {K : PySem.W.Frag} {H H' : Hp} {h : Hd} {ds : List PyData} {its : List V} (x : Items K H ds h its) (s : Same H H') : Items K H' ds h its := by
  cases h with
  | num i => exact x
  | name i => exact x
  | lit i => exact x
  | one w i => obtain ⟨vs, e, hv⟩ := x; exact ⟨vs, e, dps_same s _ _ hv⟩
  | fn xs => obtain ⟨q, vs, e, hq, hv⟩ := x; exact ⟨q, vs, e, sqt_same s hq, dps_same s _ _ hv⟩
  | bind w xs => obtain ⟨q, rows, vs, e, hq, hr, hv⟩ := x; exact ⟨q, rows, vs, e, sqt_same s hq, dps_same s _ _ hr, dps_same s _ _ hv⟩
  | doo => obtain ⟨q, vs, e, hq, hv⟩ := x; exact ⟨q, vs, e, sqt_same s hq, dps_same s _ _ hv⟩
  | call => obtain ⟨q, us, vs, e, hu, hq, hv⟩ := x; exact ⟨q, us, vs, e, dps_same s _ _ hu, sqt_same s hq, dps_same s _ _ hv⟩
  | op o => obtain ⟨q, vs, e, hq, hv⟩ := x; exact ⟨q, vs, e, sqt_same s hq, dps_same s _ _ hv⟩
  | plain w => obtain ⟨vs, e, hv⟩ := x; exact ⟨vs, e, dps_same s _ _ hv⟩
/-! ### what the word of a head is -/
def kd : Hd → Nat
  | .num _ => 0
  | .name _ => 1
  | .lit _ => 2
  | .one _ _ => 3
  | .fn _ => 4
  | .bind _ _ => 5
  | .doo => 6
  | .call => 7
  | .op _ => 8
  | .plain _ => 9
def wordsOf : Nat → List Str
  | 0 => ["number"]
  | 1 => ["name"]
  | 2 => litW
  | 3 => oneW
  | 4 => ["fn"]
  | 5 => bindW
  | 6 => ["do"]
  | 7 => ["call"]
  | 8 => ["op"]
  | _ => plainW
theorem wd_mem {h : Hd} {n : Nat} (o : hok h n) : kd h < 10 ∧ wd h ∈ wordsOf (kd h) := by
  cases h with
  | num i => exact ⟨Nat.le_of_ble_eq_true rfl, List.mem_singleton.mpr rfl⟩
  | name i => exact ⟨Nat.le_of_ble_eq_true rfl, List.mem_singleton.mpr rfl⟩
  | lit w => exact ⟨Nat.le_of_ble_eq_true rfl, o.2⟩
  | one w x => exact ⟨Nat.le_of_ble_eq_true rfl, o.2.1⟩
  | fn xs => exact ⟨Nat.le_of_ble_eq_true rfl, List.mem_singleton.mpr rfl⟩
  | bind w xs => exact ⟨Nat.le_of_ble_eq_true rfl, o.2.1⟩
  | doo => exact ⟨Nat.le_of_ble_eq_true rfl, List.mem_singleton.mpr rfl⟩
  | call => exact ⟨Nat.le_of_ble_eq_true rfl, List.mem_singleton.mpr rfl⟩
  | op i => exact ⟨Nat.le_of_ble_eq_true rfl, List.mem_singleton.mpr rfl⟩
  | plain w => exact ⟨Nat.le_of_ble_eq_true rfl, o⟩
/-- what is asked of the word alone -/
theorem by_kind (p : Str → Bool) (k : Nat → Bool) (hc : ∀ c < 10, ∀ w ∈ wordsOf c, p w = k c) {h : Hd} {n : Nat} (o : hok h n) : p (wd h) = k (kd h) :=
  hc _ (wd_mem o).1 _ (wd_mem o).2
def kF (h : Hd) : Bool := kd h == 3 || kd h == 4
def kB (h : Hd) : Bool := kd h == 5
def kP (h : Hd) : Bool := kd h == 9
def kL (h : Hd) : Bool := kd h < 3
def isDo (h : Hd) : Bool := kd h == 6
def isCall (h : Hd) : Bool := kd h == 7
def isOp (h : Hd) : Bool := kd h == 8
theorem in_words {ws : List Str} {x : Str} : inV (.str x) (ws.map V.str) = decide (x ∈ ws) := by
  induction ws with
  | nil => rfl
  | cons w ws ih =>
    show (eqV (V.str w) (V.str x) || inV (.str x) (ws.map V.str)) = _
    rw [ih]
    have e : eqV (V.str w) (V.str x) = decide (x = w) := by
      show (w == x) = _
      by_cases q : x = w
      · rw [q]; simp
      · have : ¬ w = x := fun z => q z.symm
        simp [q, this]
    rw [e]
    by_cases q : x = w <;> simp [q]
section
variable {h : Hd} {n : Nat}
theorem in_F (o : hok h n) : inV (.str (wd h)) ((["fn", "set", "keep", "once", "take"] : List Str).map V.str) = kF h :=
  by_kind (fun w => inV (.str w) ((["fn", "set", "keep", "once", "take"] : List Str).map V.str)) (fun k => k == 3 || k == 4) (by decide +kernel) o
theorem in_B (o : hok h n) : inV (.str (wd h)) ((["let", "rec"] : List Str).map V.str) = kB h :=
  by_kind (fun w => inV (.str w) ((["let", "rec"] : List Str).map V.str)) (fun k => k == 5) (by decide +kernel) o
theorem in_P (o : hok h n) : inV (.str (wd h)) ((["if", "mark", "wind", "show"] : List Str).map V.str) = kP h :=
  by_kind (fun w => inV (.str w) ((["if", "mark", "wind", "show"] : List Str).map V.str)) (fun k => k == 9) (by decide +kernel) o
theorem in_L (o : hok h n) : inV (.str (wd h)) ((["number", "true", "false", "none", "name", "ask"] : List Str).map V.str) = kL h :=
  by_kind (fun w => inV (.str w) ((["number", "true", "false", "none", "name", "ask"] : List Str).map V.str)) (fun k => k < 3) (by decide +kernel) o
theorem eq_do (o : hok h n) : decide (V.str (wd h) = V.str "do") = isDo h := by
  rw [decS]
  exact by_kind (fun w => decide (w = "do")) (fun k => k == 6) (by decide +kernel) o
theorem eq_call (o : hok h n) : decide (V.str (wd h) = V.str "call") = isCall h := by
  rw [decS]
  exact by_kind (fun w => decide (w = "call")) (fun k => k == 7) (by decide +kernel) o
theorem eq_op (o : hok h n) : decide (V.str (wd h) = V.str "op") = isOp h := by
  rw [decS]
  exact by_kind (fun w => decide (w = "op")) (fun k => k == 8) (by decide +kernel) o
end
end Cm

/-! slices and sums of tuples whichever object they are; rules with K said -/
namespace Cm
open PySem L2 PySem.Spec PyProof.Rows
theorem cut_from {xs : List V} {k : Nat} (h : k ≤ xs.length) : cutV xs (some (k : Int)) Option.none = xs.drop k := by
  unfold cutV
  rw [HT.sIx_nat, HT.sIx_none, Nat.min_eq_left h]
  exact List.take_of_length_le (by rw [List.length_drop]; omega)
theorem cut_to {xs : List V} {k : Nat} (h : k ≤ xs.length) : cutV xs Option.none (some (k : Int)) = xs.take k := by
  unfold cutV
  rw [HT.sIx_nat, HT.sIx_none, Nat.min_eq_left h, List.drop_zero, Nat.sub_zero]
/-- t[k:] of a tuple: whichever object it is -/
theorem sl_from {K : PySem.W.Frag} {a : Addr} {xs : List V} {k : Nat} {σ : L2.St} {H : Hp} {Q : VK} (hs : SqT K H a xs) (hk : k ≤ xs.length) (h : ∀ t H', Same H H' → SqT K H' t (xs.drop k) → Q (.ref t) H') :
    (tNoPart σ H fun u H1 => rSlA K (.ref a) (some (k : Int)) u H1 Q) := by
  refine ⟨a, xs, rfl, hs, fun q => ?_, fun _ p hp => ?_⟩
  · rw [HT.sIx_nat, Nat.min_eq_left hk] at q
    have : k = 0 := q.1
    subst this
    exact h a H (Same.refl H) hs
  · rw [cut_from hk]
    exact h p _ (same_new hp) (.inl (.inl upd_same))
theorem sl_to {K : PySem.W.Frag} {a : Addr} {xs : List V} {k : Nat} {H : Hp} {Q : VK} (hs : SqT K H a xs) (hk : k ≤ xs.length) (h : ∀ t H', Same H H' → SqT K H' t (xs.take k) → Q (.ref t) H') :
    rSlA K (.ref a) Option.none (some (k : Int)) H Q := by
  refine ⟨a, xs, rfl, hs, fun q => ?_, fun _ p hp => ?_⟩
  · rw [HT.sIx_nat, Nat.min_eq_left hk] at q
    have e : xs.take k = xs := List.take_of_length_le (by rw [q.2]; exact Nat.le_refl _)
    refine h a H (Same.refl H) ?_
    rw [e]
    exact hs
  · rw [cut_to hk]
    exact h p _ (same_new hp) (.inl (.inl upd_same))
theorem cat_any {K : PySem.W.Frag} {a b : Addr} {xs ys : List V} {H : Hp} {Q : VK} (ha : SqT K H a xs) (hb : SqT K H b ys) (hl : xs.length + ys.length ≤ sizeLine)
    (h : ∀ t H', Same H H' → SqT K H' t (xs ++ ys) → Q (.ref t) H') : rCatA K (.ref a) (.ref b) H Q := by
  refine ⟨a, b, xs, ys, rfl, rfl, ha, hb, hl, fun e => ?_, fun _ e => ?_, fun _ _ p hp => h p _ (same_new hp) (.inl (.inl upd_same))⟩
  · exact h b H (Same.refl H) (by rw [e]; exact hb)
  · exact h a H (Same.refl H) (by rw [e, List.append_nil]; exact ha)
theorem range_map {α β : Type} (f : α → β) (l : List α) : (List.range l.length).filterMap (fun i => (l[i]?).map f) = l.map f := by
  induction l with
  | nil => rfl
  | cons a l ih =>
    rw [List.length_cons, List.range_succ_eq_map, List.filterMap_cons]
    simp only [List.getElem?_cons_zero, Option.map_some, List.filterMap_map]
    rw [List.map_cons, ← ih]
    congr 1
theorem ke_tupleOf {X : Cx} {K : PySem.W.Frag} {a : Expr} {ta : TE} {p pos : Pos} (hg : Gl X "tuple") (hm : X.mg "tuple" = none) (ha : PE X a ta) (h : X.K = K := by rfl) (na : starEach [a] X.env = (false, eval a X.env) :: starEach [] X.env := by rfl) :
    PE X (.Call (.Name "tuple" p) [a] [] pos) (tThen ta (kTup K)) := by
  subst h
  exact pe_tupleOf hg hm ha na
theorem ne_same' {d : PyData} (h : SeqAt.shaped d = true) : (!PyData.eqv d d) = false := by
  rw [SeqAt.eqv_refl d (SeqAt.canLay_of_shaped h)]
  rfl
theorem kc_isi {X : Cx} {K : PySem.W.Frag} (h : X.K = K := by rfl) : CallR X (.builtin "isinstance") (rIsi K) := by subst h; exact call_isi
theorem one_of {α : Type} {xs : List α} (h : xs.length = 1) : ∃ x, xs = [x] := by
  cases xs with
  | nil => simp at h
  | cons a r =>
    cases r with
    | nil => exact ⟨a, rfl⟩
    | cons b r => simp at h
theorem dpAll_one {K : PySem.W.Frag} {H : Hp} {vs : List V} {d : PyData} (h : DpAll K H vs [d]) : ∃ v, vs = [v] ∧ Dp K H v d := by
  cases h with
  | cons h1 h2 =>
    cases h2
    exact ⟨_, rfl, h1⟩
theorem dps_cat {K : PySem.W.Frag} {H : Hp} {ds es : List PyData} {vs us : List V} (h1 : DpAll K H vs ds) (h2 : DpAll K H us es) : DpAll K H (vs ++ us) (ds ++ es) := DpAll.app h1 h2
theorem free_of {H H' : Hp} {p : Addr} (s : Same H H') (h : H' p = Option.none) : H p = Option.none := by
  cases e : H p with
  | none => rfl
  | some o =>
    have := s _ _ e
    rw [h] at this
    cases this
end Cm

/-! paths of trees -/
namespace Cm
open PySem L2 PySem.Spec PyProof.Rows
def Tr.hd : Tr → Hd
  | .mk h _ => h
def Tr.ps : Tr → List Tr
  | .mk _ ps => ps
def Tr.at : List Int → Tr → Option Tr
  | [], t => some t
  | i :: r, .mk _ ps => if 0 ≤ i then (ps[i.toNat]?).bind (Tr.at r) else none
def Tr.put : List Int → Tr → Tr → Tr
  | [], _, o => o
  | i :: r, .mk h ps, o => match ps[i.toNat]? with
    | some p => .mk h (ps.set i.toNat (Tr.put r p o))
    | none => .mk h ps
mutual
def Tr.paths : Tr → List (List Int)
  | .mk _ ps => [] :: Tr.pathsL 0 ps
def Tr.pathsL : Nat → List Tr → List (List Int)
  | _, [] => []
  | i, t :: ts => t.paths.map (fun p => ((i : Nat) : Int) :: p) ++ Tr.pathsL (i + 1) ts
end
mutual
def Tr.size : Tr → Nat
  | .mk _ ps => Tr.sizes ps + 1
def Tr.sizes : List Tr → Nat
  | [] => 0
  | t :: ts => t.size + Tr.sizes ts
end
theorem at_snoc : ∀ (p : List Int) (i : Int) (t : Tr), Tr.at (p ++ [i]) t = (Tr.at p t).bind (Tr.at [i])
  | [], i, t => rfl
  | j :: r, i, .mk h ps => by
    show (if 0 ≤ j then (ps[j.toNat]?).bind (Tr.at (r ++ [i])) else none) = ((if 0 ≤ j then (ps[j.toNat]?).bind (Tr.at r) else none) : Option Tr).bind (Tr.at [i])
    by_cases q : 0 ≤ j
    · rw [if_pos q, if_pos q]
      cases ps[j.toNat]? with
      | none => rfl
      | some p => exact at_snoc r i p
    · rw [if_neg q, if_neg q]
      rfl
theorem at_one {i : Nat} {h : Hd} {ps : List Tr} : Tr.at [((i : Nat) : Int)] (.mk h ps) = ps[i]? := by
  show (if 0 ≤ ((i : Nat) : Int) then (ps[((i : Nat) : Int).toNat]?).bind (Tr.at []) else none) = _
  rw [if_pos (by omega), Int.toNat_natCast]
  cases ps[i]? <;> rfl
theorem at_ok : ∀ (p : List Int) {t s : Tr}, t.ok → Tr.at p t = some s → s.ok
  | [], t, s, o, e => by cases e; exact o
  | i :: r, .mk h ps, s, o, e => by
    have e' : (if 0 ≤ i then (ps[i.toNat]?).bind (Tr.at r) else none) = some s := e
    by_cases q : 0 ≤ i
    · rw [if_pos q] at e'
      cases hp : ps[i.toNat]? with
      | none => rw [hp] at e'; cases e'
      | some p =>
        rw [hp] at e'
        have o' : hok h ps.length ∧ ps.length ≤ 11 ∧ Tr.oks ps := o
        exact at_ok r (oks_iff.mp o'.2.2 p (List.mem_of_getElem? hp)) e'
    · rw [if_neg q] at e'
      cases e'
theorem at_dep : ∀ (p : List Int) {t s : Tr}, Tr.at p t = some s → s.dep + p.length ≤ t.dep
  | [], t, s, e => by cases e; exact Nat.le_refl _
  | i :: r, .mk h ps, s, e => by
    have e' : (if 0 ≤ i then (ps[i.toNat]?).bind (Tr.at r) else none) = some s := e
    by_cases q : 0 ≤ i
    · rw [if_pos q] at e'
      cases hp : ps[i.toNat]? with
      | none => rw [hp] at e'; cases e'
      | some p =>
        rw [hp] at e'
        have h1 := at_dep r (t := p) e'
        have h2 := deps_le.mp (Nat.le_refl (Tr.deps ps)) p (List.mem_of_getElem? hp)
        show s.dep + (r.length + 1) ≤ Tr.deps ps + 1
        omega
    · rw [if_neg q] at e'
      cases e'
theorem pathsL_snoc (t : Tr) : ∀ (ts : List Tr) (i : Nat), Tr.pathsL i (ts ++ [t]) = Tr.pathsL i ts ++ t.paths.map (fun p => (((i + ts.length : Nat)) : Int) :: p)
  | [], i => by
    show t.paths.map _ ++ [] = [] ++ _
    simp
  | a :: ts, i => by
    show a.paths.map _ ++ Tr.pathsL (i + 1) (ts ++ [t]) = (a.paths.map _ ++ Tr.pathsL (i + 1) ts) ++ _
    rw [pathsL_snoc t ts (i + 1), List.append_assoc, List.length_cons, show i + 1 + ts.length = i + (ts.length + 1) by omega]
mutual
theorem paths_len : ∀ t : Tr, t.paths.length = t.size
  | .mk h ps => by
    show (Tr.pathsL 0 ps).length + 1 = Tr.sizes ps + 1
    rw [pathsL_len 0 ps]
theorem pathsL_len : ∀ (i : Nat) (ts : List Tr), (Tr.pathsL i ts).length = Tr.sizes ts
  | _, [] => rfl
  | i, t :: ts => by
    show (t.paths.map _ ++ Tr.pathsL (i + 1) ts).length = t.size + Tr.sizes ts
    rw [List.length_append, List.length_map, paths_len t, pathsL_len (i + 1) ts]
end
theorem pathsL_mem {q : List Int} : ∀ (ts : List Tr) (i : Nat), q ∈ Tr.pathsL i ts → ∃ (j : Nat) (t : Tr) (p : List Int), ts[j]? = some t ∧ p ∈ t.paths ∧ q = ((i + j : Nat) : Int) :: p
  | [], i, m => by cases m
  | a :: ts, i, m => by
    have m' : q ∈ a.paths.map (fun p => ((i : Nat) : Int) :: p) ++ Tr.pathsL (i + 1) ts := m
    rcases List.mem_append.mp m' with m | m
    · obtain ⟨p, hp, rfl⟩ := List.mem_map.mp m
      exact ⟨0, a, p, rfl, hp, rfl⟩
    · obtain ⟨j, t, p, e1, e2, e3⟩ := pathsL_mem ts (i + 1) m
      exact ⟨j + 1, t, p, by simpa using e1, e2, by rw [e3]; congr 2; omega⟩
theorem paths_at : ∀ (n : Nat) (t : Tr), t.dep ≤ n → ∀ p ∈ t.paths, ∃ s, Tr.at p t = some s := by
  intro n
  induction n with
  | zero =>
    intro t h
    cases t with
    | mk hd ps => exact absurd h (by show ¬ (Tr.deps ps + 1 ≤ 0); omega)
  | succ n ih =>
    intro t h p hp
    cases t with
    | mk hd ps =>
      have hp' : p ∈ ([] : List Int) :: Tr.pathsL 0 ps := hp
      rcases List.mem_cons.mp hp' with rfl | hp'
      · exact ⟨_, rfl⟩
      · obtain ⟨j, t, q, e1, e2, rfl⟩ := pathsL_mem ps 0 hp'
        obtain ⟨s, es⟩ := ih t (dep_mk.mp h t (List.mem_of_getElem? e1)) q e2
        refine ⟨s, ?_⟩
        show (if 0 ≤ ((0 + j : Nat) : Int) then (ps[((0 + j : Nat) : Int).toNat]?).bind (Tr.at q) else none) = some s
        rw [if_pos (by omega), Nat.zero_add, Int.toNat_natCast, e1]
        exact es
theorem paths_size : ∀ (n : Nat) (t : Tr), t.dep ≤ n → ∀ p ∈ t.paths, p.length < t.dep := by
  intro n t h p hp
  obtain ⟨s, es⟩ := paths_at n t h p hp
  have := at_dep p es
  have : 1 ≤ s.dep := by cases s with | mk hd ps => show 1 ≤ Tr.deps ps + 1; omega
  omega
def pathI (x : List Int) : PyData := .tuple (x.map PyData.int)
theorem flat_pathI (xs : List (List Int)) : flatDs (xs.map pathI) = true := flatDs_of _ fun d hd => by
  obtain ⟨x, _, rfl⟩ := List.mem_map.mp hd
  exact flatDs_ints x
theorem dp_pathI {K : PySem.W.Frag} {H : Hp} {t : Addr} {x : List Int} (h : SqT K H t (x.map V.int)) : Dp K H (.ref t) (pathI x) := .tup h (dpAll_ints x)
theorem dpAll_ints_inv {K : PySem.W.Frag} {H : Hp} : ∀ {x : List Int} {vs : List V}, DpAll K H vs (x.map PyData.int) → vs = x.map V.int
  | [], _, h => by cases h; rfl
  | i :: x, _, h => by
    cases h with
    | cons h1 h2 => rw [dp_int h1, dpAll_ints_inv h2]; rfl
theorem pathI_inv {K : PySem.W.Frag} {H : Hp} {v : V} {x : List Int} (h : Dp K H v (pathI x)) : ∃ t, v = .ref t ∧ SqT K H t (x.map V.int) := by
  obtain ⟨a, its, rfl, hs, ha⟩ := dp_tup h
  rw [dpAll_ints_inv ha] at hs
  exact ⟨a, rfl, hs⟩
end Cm

/-! keep forms of trees; once in their place -/
namespace Cm
open PySem L2 PySem.Spec PyProof.Rows
def isKeep : Hd → Bool
  | .one w _ => decide (w = "keep")
  | _ => false
theorem eq_keep {h : Hd} {n : Nat} (o : hok h n) : decide (V.str (wd h) = V.str "keep") = isKeep h := by
  have other : kd h ≠ 3 → decide (wd h = "keep") = false := fun q => by
    have key : ∀ c < 10, c ≠ 3 → ∀ w ∈ wordsOf c, decide (w = ("keep" : Str)) = false := by decide +kernel
    exact key _ (wd_mem o).1 q _ (wd_mem o).2
  rw [decS]
  cases h with
  | one w x => rfl
  | num i => exact other (Nat.ne_of_beq_eq_false rfl)
  | name i => exact other (Nat.ne_of_beq_eq_false rfl)
  | lit i => exact other (Nat.ne_of_beq_eq_false rfl)
  | fn i => exact other (Nat.ne_of_beq_eq_false rfl)
  | bind i _ => exact other (Nat.ne_of_beq_eq_false rfl)
  | doo => exact other (Nat.ne_of_beq_eq_false rfl)
  | call => exact other (Nat.ne_of_beq_eq_false rfl)
  | op i => exact other (Nat.ne_of_beq_eq_false rfl)
  | plain i => exact other (Nat.ne_of_beq_eq_false rfl)
def keepAt (t : Tr) (p : List Int) : Bool := match Tr.at p t with
  | some s => isKeep s.hd
  | none => false
def keepPaths (t : Tr) : List (List Int) := t.paths.filter (keepAt t)
def keepL : Nat → List Tr → List (List Int)
  | _, [] => []
  | i, t :: ts => (keepPaths t).map (fun p => ((i : Nat) : Int) :: p) ++ keepL (i + 1) ts
theorem keepAt_cons {h : Hd} {ps : List Tr} {j : Nat} {t : Tr} (e : ps[j]? = some t) (p : List Int) : keepAt (.mk h ps) (((j : Nat) : Int) :: p) = keepAt t p := by
  unfold keepAt
  show (match (if 0 ≤ ((j : Nat) : Int) then (ps[((j : Nat) : Int).toNat]?).bind (Tr.at p) else none : Option Tr) with | some s => isKeep s.hd | none => false) = _
  rw [if_pos (by omega), Int.toNat_natCast, e]
  rfl
theorem filter_pathsL (h : Hd) : ∀ (ts pre : List Tr), (Tr.pathsL pre.length ts).filter (keepAt (.mk h (pre ++ ts))) = keepL pre.length ts
  | [], pre => rfl
  | t :: ts, pre => by
    show (t.paths.map (fun p => ((pre.length : Nat) : Int) :: p) ++ Tr.pathsL (pre.length + 1) ts).filter _ = (keepPaths t).map _ ++ keepL (pre.length + 1) ts
    have ih := filter_pathsL h ts (pre ++ [t])
    rw [List.length_append, List.length_singleton, List.append_assoc] at ih
    rw [List.filter_append]
    have e2 : pre ++ t :: ts = pre ++ ([t] ++ ts) := rfl
    rw [e2, ih]
    congr 1
    rw [List.filter_map]
    congr 1
    unfold keepPaths
    refine List.filter_congr fun p _ => ?_
    show keepAt (.mk h (pre ++ ([t] ++ ts))) (((pre.length : Nat) : Int) :: p) = keepAt t p
    exact keepAt_cons (by rw [List.getElem?_append_right (Nat.le_refl _), Nat.sub_self]; rfl) p
theorem keepPaths_mk (h : Hd) (ps : List Tr) : keepPaths (.mk h ps) = (if isKeep h = true then [[]] else []) ++ keepL 0 ps := by
  unfold keepPaths
  show (([] : List Int) :: Tr.pathsL 0 ps).filter (keepAt (.mk h ps)) = _
  have e := filter_pathsL h ps []
  simp only [List.nil_append, List.length_nil] at e
  rw [List.filter_cons, e]
  show (if isKeep h = true then _ else _) = _
  by_cases q : isKeep h = true
  · rw [if_pos q, if_pos q]; rfl
  · rw [if_neg q, if_neg q]; rfl
theorem keepL_snoc (t : Tr) : ∀ (ts : List Tr) (i : Nat), keepL i (ts ++ [t]) = keepL i ts ++ (keepPaths t).map (fun p => (((i + ts.length : Nat)) : Int) :: p)
  | [], i => by
    show (keepPaths t).map _ ++ [] = [] ++ _
    simp
  | a :: ts, i => by
    show (keepPaths a).map _ ++ keepL (i + 1) (ts ++ [t]) = ((keepPaths a).map _ ++ keepL (i + 1) ts) ++ _
    rw [keepL_snoc t ts (i + 1), List.append_assoc, List.length_cons, show i + 1 + ts.length = i + (ts.length + 1) by omega]
theorem keepL_le : ∀ (ts : List Tr) (i : Nat), (keepL i ts).length ≤ Tr.sizes ts
  | [], i => Nat.le_refl _
  | t :: ts, i => by
    have := keepL_le ts (i + 1)
    have h1 : (keepPaths t).length ≤ t.size := by rw [← paths_len]; exact List.length_filter_le ..
    show ((keepPaths t).map _ ++ keepL (i + 1) ts).length ≤ t.size + Tr.sizes ts
    rw [List.length_append, List.length_map]
    omega
/-! ### once in the place of keep at the paths of S -/
def reword (b : Bool) : Hd → Hd
  | .one w x => if b = true ∧ w = "keep" then .one "once" x else .one w x
  | h => h
mutual
def Tr.rw (S : List (List Int)) (pre : List Int) : Tr → Tr
  | .mk h ps => .mk (reword (decide (pre ∈ S)) h) (Tr.rwL S pre 0 ps)
def Tr.rwL (S : List (List Int)) (pre : List Int) : Nat → List Tr → List Tr
  | _, [] => []
  | i, t :: ts => Tr.rw S (pre ++ [((i : Nat) : Int)]) t :: Tr.rwL S pre (i + 1) ts
end
theorem rwL_len (S : List (List Int)) (pre : List Int) : ∀ (ts : List Tr) (i : Nat), (Tr.rwL S pre i ts).length = ts.length
  | [], _ => rfl
  | t :: ts, i => by
    show (Tr.rwL S pre (i + 1) ts).length + 1 = ts.length + 1
    rw [rwL_len S pre ts (i + 1)]
theorem rwL_at (S : List (List Int)) (pre : List Int) : ∀ (ts : List Tr) (i j : Nat), (Tr.rwL S pre i ts)[j]? = (ts[j]?).map (Tr.rw S (pre ++ [((i + j : Nat) : Int)]))
  | [], _, _ => rfl
  | t :: ts, i, 0 => rfl
  | t :: ts, i, j + 1 => by
    show (Tr.rwL S pre (i + 1) ts)[j]? = (ts[j]?).map _
    rw [rwL_at S pre ts (i + 1) j, show i + 1 + j = i + (j + 1) by omega]
theorem rwL_eq {S R : List (List Int)} {pre : List Int} : ∀ (ts : List Tr) (i : Nat), (∀ j t, ts[j]? = some t → Tr.rw S (pre ++ [((i + j : Nat) : Int)]) t = Tr.rw R (pre ++ [((i + j : Nat) : Int)]) t) → Tr.rwL S pre i ts = Tr.rwL R pre i ts
  | [], _, _ => rfl
  | t :: ts, i, h => by
    show Tr.rw S _ t :: Tr.rwL S pre (i + 1) ts = Tr.rw R _ t :: Tr.rwL R pre (i + 1) ts
    have h0 := h 0 t rfl
    rw [Nat.add_zero] at h0
    have h1 := rwL_eq (S := S) (R := R) (pre := pre) ts (i + 1) fun j t e => by
      have := h (j + 1) t (by simpa using e)
      rw [show i + 1 + j = i + (j + 1) by omega]
      exact this
    rw [h0, h1]
/-- a path that does not begin so changes nothing -/
theorem rw_irrel {S : List (List Int)} {q : List Int} (t : Tr) : ∀ (pre : List Int), (∀ r, q ≠ pre ++ r) → Tr.rw (S ++ [q]) pre t = Tr.rw S pre t := by
  refine tr_ind (P := fun t => ∀ (pre : List Int), (∀ r, q ≠ pre ++ r) → Tr.rw (S ++ [q]) pre t = Tr.rw S pre t) (fun h ps ih pre hq => ?_) t
  show Tr.mk (reword (decide (pre ∈ S ++ [q])) h) (Tr.rwL (S ++ [q]) pre 0 ps) = Tr.mk (reword (decide (pre ∈ S)) h) (Tr.rwL S pre 0 ps)
  have e1 : decide (pre ∈ S ++ [q]) = decide (pre ∈ S) := by
    have n : pre ≠ q := fun e => hq [] (by rw [e, List.append_nil])
    simp [n]
  rw [e1, rwL_eq ps 0 fun j t e => ih t (List.mem_of_getElem? e) _ fun r z => hq ([((0 + j : Nat) : Int)] ++ r) (by rw [z, List.append_assoc])]
theorem put_rw {S : List (List Int)} : ∀ (p pre : List Int) (t : Tr) (x : Str) (b : Tr), Tr.at p t = some (.mk (.one "keep" x) [b]) →
    ∃ w b', Tr.at p (Tr.rw S pre t) = some (.mk (.one w x) [b']) ∧ Tr.put p (Tr.rw S pre t) (.mk (.one "once" x) [b']) = Tr.rw (S ++ [pre ++ p]) pre t
  | [], pre, t, x, b, e => by
    cases e
    have e2 : Tr.rw (S ++ [pre ++ []]) pre (.mk (.one "keep" x) [b]) = .mk (.one "once" x) [Tr.rw S (pre ++ [((0 : Nat) : Int)]) b] := by
      show Tr.mk (reword (decide (pre ∈ S ++ [pre ++ []])) (.one "keep" x)) [Tr.rw (S ++ [pre ++ []]) (pre ++ [((0 : Nat) : Int)]) b] = _
      rw [List.append_nil, rw_irrel b (pre ++ [((0 : Nat) : Int)]) fun r z => by
        have := congrArg List.length z
        simp at this]
      simp [reword]
    have e3 : ∃ w, reword (decide (pre ∈ S)) (.one "keep" x) = .one w x := by
      show ∃ w, (if decide (pre ∈ S) = true ∧ ("keep" : Str) = "keep" then Hd.one "once" x else Hd.one "keep" x) = .one w x
      split
      · exact ⟨_, rfl⟩
      · exact ⟨_, rfl⟩
    obtain ⟨w, e3⟩ := e3
    refine ⟨w, Tr.rw S (pre ++ [((0 : Nat) : Int)]) b, ?_, ?_⟩
    · show some (Tr.mk (reword (decide (pre ∈ S)) (.one "keep" x)) [Tr.rw S (pre ++ [((0 : Nat) : Int)]) b]) = _
      rw [e3]
    · rw [e2]
      rfl
  | i :: r, pre, .mk h ps, x, b, e => by
    have e' : (if 0 ≤ i then (ps[i.toNat]?).bind (Tr.at r) else none) = some (.mk (.one "keep" x) [b]) := e
    have h0 : 0 ≤ i := by
      by_cases q : 0 ≤ i
      · exact q
      · rw [if_neg q] at e'
        cases e'
    obtain ⟨m, rfl⟩ : ∃ m : Nat, i = (m : Int) := ⟨i.toNat, by omega⟩
    rw [if_pos h0, Int.toNat_natCast] at e'
    cases ec : ps[m]? with
    | none => rw [ec] at e'; cases e'
    | some c =>
      rw [ec] at e'
      obtain ⟨w, b', g1, g2⟩ := put_rw r (pre ++ [(m : Int)]) c x b e'
      have er : (Tr.rwL S pre 0 ps)[m]? = some (Tr.rw S (pre ++ [(m : Int)]) c) := by rw [rwL_at, ec, Nat.zero_add]; rfl
      refine ⟨w, b', ?_, ?_⟩
      · show (if 0 ≤ (m : Int) then ((Tr.rwL S pre 0 ps)[(m : Int).toNat]?).bind (Tr.at r) else none) = _
        rw [if_pos h0, Int.toNat_natCast, er]
        exact g1
      · show (match (Tr.rwL S pre 0 ps)[(m : Int).toNat]? with | some p => Tr.mk (reword (decide (pre ∈ S)) h) ((Tr.rwL S pre 0 ps).set (m : Int).toNat (Tr.put r p _)) | none => _) = _
        rw [Int.toNat_natCast, er]
        show Tr.mk (reword (decide (pre ∈ S)) h) ((Tr.rwL S pre 0 ps).set m (Tr.put r (Tr.rw S (pre ++ [(m : Int)]) c) (.mk (.one "once" x) [b']))) = Tr.mk (reword (decide (pre ∈ S ++ [pre ++ (m : Int) :: r])) h) (Tr.rwL (S ++ [pre ++ (m : Int) :: r]) pre 0 ps)
        rw [g2]
        have e1 : decide (pre ∈ S ++ [pre ++ (m : Int) :: r]) = decide (pre ∈ S) := by
          have n : pre ≠ pre ++ (m : Int) :: r := fun e => by
            have := congrArg List.length e
            simp at this
          simp [n]
        rw [e1]
        congr 1
        have hm : m < ps.length := (List.getElem?_eq_some_iff.mp ec).1
        refine List.ext_getElem? fun j => ?_
        rw [rwL_at]
        by_cases q : j = m
        · subst q
          rw [List.getElem?_set_self (by rw [rwL_len]; exact hm), ec, Nat.zero_add, List.append_assoc]
          rfl
        · rw [List.getElem?_set_ne (Ne.symm q), rwL_at]
          cases ej : ps[j]? with
          | none => rfl
          | some d =>
            show some _ = some _
            rw [rw_irrel d (pre ++ [((0 + j : Nat) : Int)]) fun r' z => q ?_]
            rw [List.append_assoc] at z
            have z2 := List.append_cancel_left z
            simp at z2
            omega
end Cm

/-! a comprehension that draws, with a word on what was made so far -/
namespace Cm
open PySem L2 PySem.Spec PyProof.Rows
theorem lc_drawJ {K : PySem.W.Frag} {M : Addr → Prop} {I : It} {n : Nat} {G : Hp → Prop} {Y : Nat → Hp → V → Hp → Prop} (wk : Walk I n G Y) {g : TG} {tt : TT} {te : TE} {vs : List Nat} {σ : L2.St} {H1 : Hp} {D : Addr} {Qd : Hp → Prop}
    (J : Nat → List PyData → Hp → Prop) (hM : ∀ a, M a → ∃ xs, H1 a = some (.lst xs)) (h0 : J 0 [] (upd H1 D (.lst []))) (hJ : ∀ i ds H ys, Kp M H1 H → J i ds H → J i ds (upd H D (.lst ys)))
    (hD : H1 D = Option.none) (hn : n ≤ 100000) (hG : ∀ i ds H, Kp M H1 H → J i ds H → G H) (hfl : ∀ i ds H, J i ds H → flatDs ds = true)
    (hs : ∀ i x ds H H', i < n → Kp M H1 H → J i ds H → Y i H x H' → ∀ (Q1 : VK) (Q0 : Hp → Prop), (∀ v H4 d, Kp M H H4 → J (i + 1) (ds ++ [d]) H4 → Dp K H4 v d → Q1 v H4) → (∀ H3, Kp M H H3 → J (i + 1) ds H3 → Q0 H3) →
      g x (wipe σ vs) H' fun σ2 H2 => wipe σ2 vs = wipe σ vs ∧ tt σ2 H2 fun b H3 => if b = true then te σ2 H3 Q1 else Q0 H3)
    (hd : ∀ H acc ds, Kp M H1 H → J n ds H → H D = some (.lst acc) → DpAll K H acc ds → Qd H) :
    ∃ W : Nat → Nat → Hp → Prop, (∃ m, W 0 m (upd H1 D (.lst []))) ∧ ∀ i m H, W i m H →
      (I.stop i H ∧ Qd H) ∨ (I.go i H ∧ ∃ Nx : Hp → Prop, (∀ H', Nx H' → ∃ m', m' < m ∧ W (i + 1) m' H') ∧ ∀ x H', I.yld i H x H' → g x (wipe σ vs) H' fun σ2 H2 => wipe σ2 vs = wipe σ vs ∧ tt σ2 H2 fun b H3 =>
        if b = true then te σ2 H3 fun y H4 => ∃ acc, H4 D = some (.lst acc) ∧ acc.length < sizeLine ∧ Nx (upd H4 D (.lst (acc ++ [y]))) else Nx H3) := by
  have nM : ¬ M D := fun m => by
    obtain ⟨xs, e⟩ := hM D m
    rw [hD] at e
    cases e
  refine lc_it wk (fun i H => ∃ acc ds, Kp M H1 H ∧ J i ds H ∧ H D = some (.lst acc) ∧ DpAll K H acc ds ∧ acc.length ≤ i) ⟨[], [], Kp.new hM hD, h0, upd_same, .nil, Nat.le_refl _⟩ (fun i H _ z => ?_) ?_ ?_
  · obtain ⟨acc, ds, s, j, _⟩ := z
    exact hG i ds H s j
  · rintro i x H H' hi ⟨acc, ds, s, j, hacc, ha, hl⟩ y
    refine hs i x ds H H' hi s j y _ _ (fun v H4 d s4 j4 hv => ?_) (fun H3 s3 j3 => ?_)
    · have hD4 := s4.st _ _ nM hacc
      have f4 := hfl _ _ _ j4
      have f1 : flatDs ds = true := hfl _ _ _ j
      have f2 : flatD d = true := flatDs_all f4 d (List.mem_append_right _ (List.mem_singleton.mpr rfl))
      refine ⟨acc, hD4, Nat.lt_of_le_of_lt hl (Nat.lt_of_lt_of_le (show i < 100000 by omega) (by decide)), acc ++ [v], ds ++ [d], (s.trans s4).mut hD, hJ _ _ _ _ (s.trans s4) j4, upd_same, ?_, by rw [List.length_append]; exact Nat.succ_le_succ hl⟩
      exact DpAll.snoc (dp_keep (fun _ _ q => sqt_put hD4 q) _ _ f2 hv) (dps_keep (fun _ _ q => sqt_put hD4 q) _ _ f1 (dps_keep (fun _ _ q => s4.tup q) _ _ f1 ha))
    · exact ⟨acc, ds, s.trans s3, j3, s3.st _ _ nM hacc, dps_keep (fun _ _ q => s3.tup q) _ _ (hfl _ _ _ j) ha, by omega⟩
  · rintro H ⟨acc, ds, s, j, hacc, ha, _⟩
    exact hd H acc ds s j hacc ha
/-- a built-in method with arguments, where K is said -/
theorem ke_bm {X : Cx} {K : PySem.W.Frag} {T : String} {name : Str} {id : String} {r : V → List V → Hp → VK → Prop} {o e : Expr} {es : List Expr} {to : TE} {t : TA} {apos cpos : Pos} (pa : PlainAttrs T) (slot : Slot T name id)
    (hty : typeOf (.builtin id) = pure (.type "method_descriptor")) (hm : MtR X id r) (ho : PE X o to) (ha : PA X (e :: es) t) (hK : X.K = K := by rfl) (b1 : attributeBase o name X.env (eval o X.env) = eval o X.env := by rfl)
    (b2 : ((backTo cpos (starEach (e :: es) X.env)).all (fun x => !x.1) && (backToKw cpos (keywordEach [] X.env)).all (fun x => x.1.isSome) && decide ((e :: es).length + ([] : List Keyword).length + (if ([] : List Keyword).isEmpty then 0 else 1) < 30)) = true := by rfl)
    (b3 : (apos.endLine == cpos.line) = true := by rfl) (b4 : starEach (e :: es) X.env = (false, eval e X.env) :: starEach es X.env := by rfl) (b5 : (backTo cpos (starEach es X.env)).any (·.1) = false := by rfl) :
    PE X (.Call (.Attribute o name apos) (e :: es) [] cpos) (tBM K T r to t) := by
  subst hK
  exact pe_bm pa slot hty hm ho ha b1 b2 b3 b4 b5
end Cm

/-! trees that are drawn: the hand and the room -/
namespace Cm
open PySem L2 PySem.Spec PyProof.Rows
/-- the hand at h, the room k at r -/
structure Gn (H : Hp) (h c r : Addr) (k : Nat) : Prop where
  hand : Hand H h c
  rm : H r = some (.lst [.int (k : Nat)])
  rh : r ≠ h
  rc : r ≠ c
abbrev Kr (h r : Addr) : Hp → Hp → Prop := Kp (fun a => a = h ∨ a = r)
theorem Gn.lists {H : Hp} {h c r : Addr} {k : Nat} (x : Gn H h c r k) : ∀ a, (a = h ∨ a = r) → ∃ xs, H a = some (.lst xs) := fun a m => by
  rcases m with rfl | rfl
  · exact x.hand.lst
  · exact ⟨_, x.rm⟩
theorem Gn.refl {H : Hp} {h c r : Addr} {k : Nat} (x : Gn H h c r k) : Kr h r H H := Kp.refl x.lists
theorem Gn.same {H H' : Hp} {h c r : Addr} {k : Nat} (x : Gn H h c r k) (s : Same H H') : Gn H' h c r k ∧ Kr h r H H' := ⟨⟨x.hand.same s, s _ _ x.rm, x.rh, x.rc⟩, .of_same x.lists s⟩
theorem Gn.draw {H H' : Hp} {h c r : Addr} {k : Nat} (x : Gn H h c r k) (kh : Kh h H H') (hh : Hand H' h c) : Gn H' h c r k ∧ Kr h r H H' :=
  ⟨⟨hh, kh.st _ _ x.rh x.rm, x.rh, x.rc⟩, kh.wider (fun _ m => .inl m) x.lists⟩
theorem Gn.puts {H : Hp} {h c r D : Addr} {o : HO} {k : Nat} (x : Gn H h c r k) (n1 : D ≠ h) (n2 : D ≠ c) (n3 : D ≠ r) : Gn (upd H D o) h c r k :=
  ⟨x.hand.puts n1 n2, by rw [upd_ne n3.symm]; exact x.rm, x.rh, x.rc⟩
/-- the room is one less -/
theorem Gn.less {H : Hp} {h c r : Addr} {k : Nat} (x : Gn H h c r (k + 1)) : Gn (upd H r (.lst [.int (k : Nat)])) h c r k ∧ Kr h r H (upd H r (.lst [.int (k : Nat)])) :=
  ⟨⟨x.hand.puts x.rh x.rc, upd_same, x.rh, x.rc⟩, Kp.put x.lists (.inr rfl)⟩
theorem sizes_snoc (t : Tr) : ∀ ts : List Tr, Tr.sizes (ts ++ [t]) = Tr.sizes ts + t.size
  | [] => by show t.size + 0 = 0 + t.size; omega
  | a :: ts => by
    have := sizes_snoc t ts
    show a.size + Tr.sizes (ts ++ [t]) = a.size + Tr.sizes ts + t.size
    omega
/-- a comprehension of drawn trees: F says how they lie in the list, E how one of them does -/
theorem lc_gen {K : PySem.W.Frag} {h c r : Addr} {k : Nat} {I : It} {n : Nat} {G : Hp → Prop} {Y : Nat → Hp → V → Hp → Prop} (wk : Walk I n G Y) {g : TG} {te : TE} {vs : List Nat} {σ : L2.St} {H1 : Hp} {D : Addr} {Qd : Hp → Prop}
    (F : List Tr → List PyData) (E : Nat → Tr → PyData) (dm cost : Nat) (F0 : F [] = []) (FS : ∀ ts t, ts.length < n → F (ts ++ [t]) = F ts ++ [E ts.length t]) (Fl : ∀ ts, flatDs (F ts) = true)
    (x0 : Gn H1 h c r k) (hD : H1 D = Option.none) (hn : n ≤ 100000) (hG : ∀ H, Kr h r H1 H → G H)
    (hs : ∀ i x k1 H H', i < n → Kr h r H1 H → Gn H h c r k1 → Y i H x H' → ∀ Q1 : VK, (∀ v t k2 H4, Kr h r H H4 → Gn H4 h c r k2 → Dp K H4 v (E i t) → t.ok → t.dep ≤ dm → t.size + 12 * k2 ≤ cost + 12 * k1 → Q1 v H4) →
      g x (wipe σ vs) H' fun σ2 H2 => wipe σ2 vs = wipe σ vs ∧ te σ2 H2 Q1)
    (hd : ∀ H acc ts k1, Kr h r H1 H → Gn H h c r k1 → H D = some (.lst acc) → DpAll K H acc (F ts) → ts.length = n → (∀ t ∈ ts, t.ok ∧ t.dep ≤ dm) → Tr.sizes ts + 12 * k1 ≤ cost * n + 12 * k → Qd H) :
    ∃ W : Nat → Nat → Hp → Prop, (∃ m, W 0 m (upd H1 D (.lst []))) ∧ ∀ i m H, W i m H →
      (I.stop i H ∧ Qd H) ∨ (I.go i H ∧ ∃ Nx : Hp → Prop, (∀ H', Nx H' → ∃ m', m' < m ∧ W (i + 1) m' H') ∧ ∀ x H', I.yld i H x H' → g x (wipe σ vs) H' fun σ2 H2 => wipe σ2 vs = wipe σ vs ∧ tYes σ2 H2 fun b H3 =>
        if b = true then te σ2 H3 fun y H4 => ∃ acc, H4 D = some (.lst acc) ∧ acc.length < sizeLine ∧ Nx (upd H4 D (.lst (acc ++ [y]))) else Nx H3) := by
  have nD := x0.hand.there hD
  have nDr : D ≠ r := (ne_of_none x0.rm hD).symm
  refine lc_drawJ (K := K) (M := fun a => a = h ∨ a = r) wk (fun i ds H => ∃ ts k1, ds = F ts ∧ Gn H h c r k1 ∧ ts.length = i ∧ (∀ t ∈ ts, t.ok ∧ t.dep ≤ dm) ∧ Tr.sizes ts + 12 * k1 ≤ cost * i + 12 * k) x0.lists
    ⟨[], k, F0.symm, (x0.same (same_new hD)).1, rfl, (fun _ m => by cases m), (by show 0 + 12 * k ≤ cost * 0 + 12 * k; omega)⟩ (fun i ds H ys _ j => ?_) hD hn (fun _ _ H kk _ => hG H kk) (fun i ds H j => ?_) ?_ ?_
  · obtain ⟨ts, k1, a1, a2, a3⟩ := j
    exact ⟨ts, k1, a1, a2.puts nD.1 nD.2 nDr, a3⟩
  · obtain ⟨ts, k1, rfl, _⟩ := j
    exact Fl ts
  · rintro i x ds H H' hi kk ⟨ts, k1, rfl, a2, a3, a4, a5⟩ y Q1 Q0 q1 q0
    refine hs i x k1 H H' hi kk a2 y Q1 fun v t k2 H4 k4 x4 hv ok dp sz => ?_
    refine q1 v H4 (E i t) k4 ⟨ts ++ [t], k2, ?_, x4, ?_, ?_, ?_⟩ hv
    · rw [FS ts t (by omega), a3]
    · rw [List.length_append, a3]; rfl
    · intro u hu
      rcases List.mem_append.mp hu with hu | hu
      · exact a4 u hu
      · cases List.mem_singleton.mp hu
        exact ⟨ok, dp⟩
    · rw [sizes_snoc, Nat.mul_succ]
      omega
  · rintro H acc ds kk ⟨ts, k1, rfl, a2, a3, a4, a5⟩ hacc ha
    exact hd H acc ts k1 kk a2 hacc ha a3 a4 a5
theorem encL_snoc (t : Tr) (ts : List Tr) : Tr.encL (ts ++ [t]) = Tr.encL ts ++ [t.enc] := by
  rw [encL_map, encL_map, List.map_append]
  rfl
/-- rows of names and trees -/
def rowsL (xs : List Str) (ts : List Tr) : List PyData := (xs.zip (Tr.encL ts)).map rowD
theorem rowsL_snoc {t : Tr} : ∀ {xs : List Str} {ts : List Tr}, ts.length < xs.length → rowsL xs (ts ++ [t]) = rowsL xs ts ++ [rowD ((xs[ts.length]?).getD "", t.enc)]
  | x :: xs, [], _ => by simp [rowsL, Tr.encL]
  | x :: xs, a :: ts, h => by
    have ih := rowsL_snoc (t := t) (xs := xs) (ts := ts) (by simpa using h)
    show rowD (x, a.enc) :: rowsL xs (ts ++ [t]) = rowD (x, a.enc) :: rowsL xs ts ++ _
    rw [ih]
    rfl
theorem rowsL_flat (xs : List Str) (ts : List Tr) : flatDs (rowsL xs ts) = true := flatDs_of _ fun d hd => by
  obtain ⟨p, hp, rfl⟩ := List.mem_map.mp hd
  have h := (List.of_mem_zip (show (p.1, p.2) ∈ xs.zip (Tr.encL ts) from hp)).2
  have := flatDs_all (flat_encL ts) _ h
  simp [rowD, flatD, flatDs, this]
end Cm

/-! zip of a tuple and a list -/
namespace Cm
open PySem L2 PySem.Spec PyProof.Rows
def ItzM (K : PySem.W.Frag) (a b : Addr) : It :=
  ⟨fun i H => ∃ (xs ys : List V) (x y : V), SqT K H a xs ∧ SqL K H b ys ∧ xs[i]? = some x ∧ ys[i]? = some y,
    fun i H v H' => ∃ T x y, v = .ref T ∧ H T = Option.none ∧ H' = upd H T (.tup [x, y]) ∧ (∀ xs, SqT K H a xs → xs[i]? = some x) ∧ ∀ ys, SqL K H b ys → ys[i]? = some y,
    fun i H => ∃ xs ys : List V, SqT K H a xs ∧ SqL K H b ys ∧ i ≤ xs.length ∧ i ≤ ys.length ∧ (i = xs.length ∨ i = ys.length)⟩
theorem sep_of {z TI TO i1 i2 a b : Addr} (D : ZipApart z TI TO i1 i2 a b) : ZipSep2 z TI TO i1 i2 [i1, a] [i2, b] where
  TIz := D.TIz
  TOz := D.TOz
  TITO := D.TITO
  TIi1 := D.TIi1
  mem1 := by simp
  zf1 := fun h => by
    rcases (show z = i1 ∨ z = a by simpa using h) with q | q
    · exact D.i1z q.symm
    · exact D.l1z q.symm
  Tf1 := fun h => by
    rcases (show TO = i1 ∨ TO = a by simpa using h) with q | q
    · exact D.TOi1 q
    · exact D.l1TO q.symm
  TIi2 := D.TIi2
  mem2 := by simp
  zf2 := fun h => by
    rcases (show z = i2 ∨ z = b by simpa using h) with q | q
    · exact D.i2z q.symm
    · exact D.l2z q.symm
  Tf2 := fun h => by
    rcases (show TO = i2 ∨ TO = b by simpa using h) with q | q
    · exact D.TOi2 q
    · exact D.l2TO q.symm
  sep1_2 := fun h => by
    rcases (show i1 = i2 ∨ i1 = b by simpa using h) with q | q
    · exact D.i12 q
    · exact D.l2i1 q.symm
  sep2_1 := fun h => by
    rcases (show i2 = i1 ∨ i2 = a by simpa using h) with q | q
    · exact D.i12 q.symm
    · exact D.l1i2 q.symm
theorem turn_zipM {P : Program} {w : World} {K : PySem.W.Frag} {elts : List Expr} {kk : Nat} {tpos : Pos} {a b z TI TO i1 i2 : Addr} (D : ZipApart z TI TO i1 i2 a b) :
    Turn P w K (.Tuple elts kk tpos) (ItzM K a b) [z, TI, TO, i1, i2] z (fun i h => IsZip h z TI TO .none ∧ IsPair h TI (.ref i1) (.ref i2) ∧ (∃ x y, IsPair h TO x y) ∧ h.IsTupleIter i1 a i ∧ h.IsListIter i2 b i) where
  mem := by simp
  obj := fun i h st c hc => by
    obtain ⟨hz, hTI, ⟨x, y, hTO⟩, ⟨o1, e1, _, d1⟩, ⟨o2, e2, _, d2⟩⟩ := st
    have e' : c = z ∨ c = TI ∨ c = TO ∨ c = i1 ∨ c = i2 := by simpa using hc
    rcases e' with q | q | q | q | q
    · rw [q]; exact ⟨_, hz, fun v q => nomatch q⟩
    · rw [q]; exact ⟨_, hTI, fun v q => nomatch q⟩
    · rw [q]; exact ⟨_, hTO, fun v q => nomatch q⟩
    · rw [q]; exact ⟨o1, e1, fun v q => by rw [d1] at q; cases q⟩
    · rw [q]; exact ⟨o2, e2, fun v q => by rw [d2] at q; cases q⟩
  keep := fun i h h' st k => by
    obtain ⟨hz, hTI, ⟨x, y, hTO⟩, h1, h2⟩ := st
    exact ⟨k z (by simp) _ hz, k TI (by simp) _ hTI, ⟨x, y, k TO (by simp) _ hTO⟩, h1.at fun o q => k i1 (by simp) o q, h2.at fun o q => k i2 (by simp) o q⟩
  item := by
    intro X hP hw hK hc i pins s σ H E I hf st hg
    subst hP hw hK
    obtain ⟨hz, hTI, ⟨x0, y0, hTO⟩, h1, h2⟩ := st
    obtain ⟨xs, ys, x, y, hqx, hqy, hx, hy⟩ := hg
    obtain ⟨its, rv, p, _⟩ := I.tuple hqx
    obtain ⟨its2, rv2, p2, _⟩ := I.list hqy
    obtain ⟨u, hu, ru⟩ := rv.get hx
    obtain ⟨u2, hu2, ru2⟩ := rv2.get hy
    have hzl : z < s.heap.objs.size := Heap.lt_size hz
    have hh : X.A.in1.handled = Option.none := I.ok.hd hc
    have i1l : i < its.toArray.size := by
      have := List.getElem?_eq_some_iff.mp hu
      simpa using this.1
    have i2l : i < its2.toArray.size := by
      have := List.getElem?_eq_some_iff.mp hu2
      simpa using this.1
    refine wpAny_pyNext_zipD2_item (sep_of D) (Draws.tuple hh i1 a D.l1i1 its.toArray) (Draws.list hh i2 b D.l2i2 its2.toArray) hz hTI hTO ⟨h1, p⟩ ⟨h2, p2.isList⟩ i1l i2l fun x1 x2 h' tk y1 y2 z' TO' st1 st2 hT hsz hk => ?_
    obtain rfl : u = x1 := by
      have : its[i]? = some x1 := by simpa using y1
      rw [hu] at this
      exact Option.some.inj this
    obtain rfl : u2 = x2 := by
      have : its2[i]? = some x2 := by simpa using y2
      rw [hu2] at this
      exact Option.some.inj this
    obtain ⟨h1', _⟩ := st1
    obtain ⟨h2', _⟩ := st2
    refine ⟨_, rfl, wpAny_letOwnedTupleGo_zip (s := { s with heap := h', toks := tk }) z' fun h'' z'' sb => ?_⟩
    have hT2 : h''.get? s.heap.objs.size = some { cls := .type "tuple", data := .seq #[u, u2] } := (sb.2 _ (Nat.ne_of_gt hzl)).trans hT
    have new : ObjOk X.prog X.w (upd H s.heap.objs.size (.tup [x, y])) h'' s.heap.objs.size (.tup [x, y]) :=
      ⟨by show 2 ≤ sizeLine; decide, [u, u2], .cons ru (.cons ru2 .nil), ⟨_, hT2, rfl, _, rfl⟩⟩
    have I1 : Inv X pins σ (upd H s.heap.objs.size (.tup [x, y])) { s with heap := h'', toks := tk } :=
      I.turnedNew (t' := tk) (ch := [z, TI, TO, i1, i2]) (fun c o hb q => (sb.2 c (fun q' => hb (by simp [q']))).trans (hk c o (fun q' => hb (by simp [q'])) (fun q' => hb (by simp [q'])) (fun q' => hb (by simp [q'])) (fun q' => hb (by simp [q'])) q)) hf (Nat.le_refl _) new
    refine ⟨.ref s.heap.objs.size, _, I1, rfl, ⟨_, x, y, rfl, I.hok.fresh (Nat.le_refl _), rfl, fun l hl => by rw [I.tuple_inj hl hqx]; exact hx, fun l hl => by rw [I.list_inj hl hqy]; exact hy⟩, ⟨z'', ?_, ⟨u, u2, ?_⟩, ?_, ?_⟩, fun c hcm => ?_⟩
    · exact (sb.2 _ D.TIz).trans (hk _ _ D.TIz D.TITO D.TIi1 D.TIi2 hTI)
    · exact (sb.2 _ D.TOz).trans TO'
    · exact h1'.at fun o q => (sb.2 _ D.i1z).trans q
    · exact h2'.at fun o q => (sb.2 _ D.i2z).trans q
    · have hlt : c < s.heap.objs.size := by
        have e' : c = z ∨ c = TI ∨ c = TO ∨ c = i1 ∨ c = i2 := by simpa using hcm
        rcases e' with q | q | q | q | q
        · rw [q]; exact hzl
        · rw [q]; exact Heap.lt_size hTI
        · rw [q]; exact Heap.lt_size hTO
        · rw [q]; obtain ⟨_, e1, _⟩ := h1; exact Heap.lt_size e1
        · rw [q]; obtain ⟨_, e2, _⟩ := h2; exact Heap.lt_size e2
      rw [upd_ne (Nat.ne_of_lt hlt)]
      exact (hf c hcm).1
  done := by
    intro X hP hw hK hc i pins s σ H E I hf st hg
    subst hP hw hK
    obtain ⟨hz, hTI, ⟨x0, y0, hTO⟩, h1, h2⟩ := st
    obtain ⟨xs, ys, hqx, hqy, hend1, hend2, hend⟩ := hg
    obtain ⟨its, rv, p, _⟩ := I.tuple hqx
    obtain ⟨its2, rv2, p2, _⟩ := I.list hqy
    have hh : X.A.in1.handled = Option.none := I.ok.hd hc
    have l1 := rv.length
    have l2 := rv2.length
    exact wpAny_pyNext_zipD2_end (i := i) (sep_of D) (Draws.tuple hh i1 a D.l1i1 its.toArray) (Draws.list hh i2 b D.l2i2 its2.toArray) hz hTI hTO ⟨h1, p⟩ ⟨h2, p2.isList⟩ (by simp; omega) (by simp; omega) (by
      rcases hend with q | q
      · exact .inl (by simp; omega)
      · exact .inr (by simp; omega)) fun h' tk hk => ⟨rfl, I.turnedL (t' := tk) (ch := [z, TI, TO, i1, i2]) (fun c o hb q =>
      hk c o (fun q' => hb (by simp [q'])) (fun q' => hb (by simp [q'])) (fun q' => hb (by simp [q'])) (fun q' => hb (by simp [q'])) q) hf⟩
  self := fun A i s Q E st h => wpAny_pyIter_zip st.1 h
def iZipM (K : PySem.W.Frag) (ta : TA) : TI := fun σ H R => ta σ H fun vs H1 => ∃ a b xs ys, vs = [.ref a, .ref b] ∧ SqT K H1 a xs ∧ SqL K H1 b ys ∧ R (ItzM K a b) H1
theorem pi_zipM {X : Cx} {e e2 : Expr} {ta : TA} {p pos tpos : Pos} {elts : List Expr} {kk : Nat} (hg : Gl X "zip") (hm : X.mg "zip" = Option.none) (ha : PA X [e, e2] ta)
    (hs : starEach [e, e2] X.env = (false, eval e X.env) :: starEach [e2] X.env := by rfl) (hpl : (backTo pos (starEach [e2] X.env)).any (·.1) = false := by rfl) :
    PI X (.Tuple elts kk tpos) (.Call (.Name "zip" p) [e, e2] [] pos) (iZipM X.K ta) := by
  refine ⟨fun pins s σ H R I h => ?_⟩
  refine Call_ (ld_blt I hg hm PyProof.Rows.boot_zip (PyProof.Rows.callWith_type1 (thn (ha.run pos pins s σ H _ I h) fun us s1 ⟨vs, H1, I1, r1, q1⟩ => ?_) hs hpl))
  obtain ⟨a, b, xs, ys, ex, hqx, hqy, q⟩ := q1
  subst ex
  cases r1 with
  | cons r rr =>
    cases rr with
    | cons r' rr =>
      cases rr
      cases r
      cases r'
      obtain ⟨its, rv, p1, _⟩ := I1.tuple hqx
      obtain ⟨its2, rv2, p2, _⟩ := I1.list hqy
      obtain ⟨oa, ho1, _⟩ := id p1
      have la : a < s1.heap.objs.size := Heap.lt_size ho1
      have lb : b < s1.heap.objs.size := p2.lt
      refine zip_begins2 (begins_tuple a its.toArray) (begins_list b its2.toArray) p1 p2.isList fun h' hz hTI hTO h1 h2 hsz hk => wpAny_pyIter_zip hz ?_
      have I2 : Inv X pins σ H1 { s1 with heap := h' } := I1.kept (t' := s1.toks) hk
      refine ⟨s1.heap.objs.size + 4, [s1.heap.objs.size + 4, s1.heap.objs.size + 2, s1.heap.objs.size + 3, s1.heap.objs.size, s1.heap.objs.size + 1], _, _, H1, rfl, I2, turn_zipM (PySem.W.ktu_apart s1.heap.objs.size a b la lb), ⟨hz, hTI, ⟨_, _, hTO⟩, ⟨_, h1, rfl, rfl⟩, ⟨_, h2, rfl, rfl⟩⟩, fun c hcm => ?_, q⟩
      have e' : c = s1.heap.objs.size + 4 ∨ c = s1.heap.objs.size + 2 ∨ c = s1.heap.objs.size + 3 ∨ c = s1.heap.objs.size ∨ c = s1.heap.objs.size + 1 := by simpa using hcm
      have hle : s1.heap.objs.size ≤ c := by
        rcases e' with z | z | z | z | z
        · rw [z]; exact Nat.le_add_right _ _
        · rw [z]; exact Nat.le_add_right _ _
        · rw [z]; exact Nat.le_add_right _ _
        · rw [z]; exact Nat.le_refl _
        · rw [z]; exact Nat.le_add_right _ _
      exact I1.fpOk hle (I1.hok.fresh hle)
theorem walk_zipM {K : PySem.W.Frag} {a b : Addr} {xs ys : List V} {n : Nat} (h1 : xs.length = n ∨ ys.length = n) (h2 : n ≤ xs.length) (h3 : n ≤ ys.length) : Walk (ItzM K a b) n (fun H => SqT K H a xs ∧ SqL K H b ys) (YPair (fun i => xs[i]?) (fun i => ys[i]?)) := by
  refine ⟨fun i _ hi q => ?_, fun _ q => ⟨xs, ys, q.1, q.2, h2, h3, by omega⟩, fun i H v H' _ q y => ?_⟩
  · have h1 : i < xs.length := by omega
    have h2 : i < ys.length := by omega
    exact ⟨xs, ys, xs[i], ys[i], q.1, q.2, by simp [h1], by simp [h2]⟩
  · obtain ⟨T, x, z, h1, h2, h3, h4, h5⟩ := y
    exact ⟨T, x, z, h1, h2, h3, h4 xs q.1, h5 ys q.2⟩
end Cm

/-! paths as data: equality, being in a list -/
namespace Cm
open PySem L2 PySem.Spec PyProof.Rows
theorem eqvAll_intsP : ∀ a b : List Int, PyData.eqvAll (a.map PyData.int) (b.map PyData.int) = decide (a = b)
  | [], [] => by simp [PyData.eqvAll]
  | [], b :: bs => by simp [PyData.eqvAll]
  | a :: as, [] => by simp [PyData.eqvAll]
  | a :: as, b :: bs => by
    have ih := eqvAll_intsP as bs
    simp only [List.map_cons, PyData.eqvAll, PyData.eqv, ih]
    by_cases h : a = b
    · by_cases h2 : as = bs <;> simp [h, h2]
    · simp [h]
theorem eqv_path (a b : List Int) : PyData.eqv (pathI a) (pathI b) = decide (a = b) := by
  have := eqvAll_intsP a b
  simp only [pathI, PyData.eqv]
  exact this
theorem any_path (S : List (List Int)) (p : List Int) : ((S.map pathI).any fun z => PyData.eqv z (pathI p)) = decide (p ∈ S) := by
  induction S with
  | nil => rfl
  | cons s S ih =>
    rw [List.map_cons, List.any_cons, ih, eqv_path]
    by_cases h : s = p
    · simp [h]
    · have : ¬ p = s := fun z => h z.symm
      simp [h, this]
theorem lay_path (p : List Int) : Lay 1 (pathI p) := Lay.tup (n := 0) fun d hd => by
  obtain ⟨i, _, rfl⟩ := List.mem_map.mp hd
  exact .int i 0
theorem lay_paths (S : List (List Int)) : Lay 2 (.list (S.map pathI)) := Lay.lst fun d hd => by
  obtain ⟨i, _, rfl⟩ := List.mem_map.mp hd
  exact lay_path i
theorem lay_pathsT (S : List (List Int)) : Lay 2 (.tuple (S.map pathI)) := Lay.tup fun d hd => by
  obtain ⟨i, _, rfl⟩ := List.mem_map.mp hd
  exact lay_path i
theorem ko_notInD {X : Cx} {K : PySem.W.Frag} (hu : X.A.units + 65 < cLine) (h : X.K = K := by rfl) : OpR X (compareOp .NotIn) (rNotInD K) := by subst h; exact op_notInD hu
theorem ko_inD {X : Cx} {K : PySem.W.Frag} (hu : X.A.units + 65 < cLine) (h : X.K = K := by rfl) : OpR X (compareOp .In) (rInD K) := by subst h; exact op_inD hu
def rListOf (K : PySem.W.Frag) : List V → Hp → VK → Prop := fun xs H Q => ∃ p ys, xs = [.ref p] ∧ (SqL K H p ys ∨ SqT K H p ys) ∧ ∀ l, H l = Option.none → Q (.ref l) (upd H l (.lst ys))
theorem kc_listOf {X : Cx} {K : PySem.W.Frag} (h : X.K = K := by rfl) : CallR X (.type "list") (rListOf K) := by subst h; exact call_list_of
theorem room65 {k : Nat} {A : Around} (r : Room k A) : A.units + 65 < cLine := by have := r.un; omega
end Cm

/-! an exception that is caught and kept as a value -/
namespace Cm
open PySem L2 PySem.Spec PyProof.Rows
/-- an exception object at a: its class, its dict -/
def ExH (a : Addr) (cls : Value) (d : Option Addr) : HO := .ext fun h => ∃ (o : Obj) (vs : Array Value), h.get? a = some o ∧ Zc cls d o ∧ o.data = .fields vs
theorem exH_ok {P : Program} {w : World} {H : Hp} {h : Heap} {a : Addr} {cls : Value} {d : Option Addr} {o : Obj} {vs : Array Value} (e : h.get? a = some o) (z : Zc cls d o) (f : o.data = .fields vs) : ObjOk P w H h a (ExH a cls d) :=
  ⟨⟨o, vs, e, z, f⟩, ⟨o, e⟩, fun h1 h2 ⟨o', vs', e', z', f'⟩ k => ⟨o', vs', k _ e', z', f'⟩⟩
theorem exH_at {P : Program} {w : World} {H : Hp} {h : Heap} {a : Addr} {cls : Value} {d : Option Addr} (hok : HOk P w H h) (e : H a = some (ExH a cls d)) : ∃ (o : Obj) (vs : Array Value), h.get? a = some o ∧ Zc cls d o ∧ o.data = .fields vs := by
  have x : ObjOk P w H h a (ExH a cls d) := hok a _ e
  exact x.1
section
variable {X : Cx} {pins : List (Addr × Obj)} {σ : L2.St} {H : Hp} {s : Shared}
theorem track {a : Addr} {o : HO} (I : Inv X pins σ H s) (na : H a = Option.none) (n0 : X.s_0.heap.get? a = Option.none) (nL : a ≠ X.env.locals) (nC : ∀ x c, X.env.cells.lookup x = some c → c ≠ a) (nP : ∀ p ∈ X.pn ++ pins, p.1 ≠ a)
    (new : ObjOk X.prog X.w (upd H a o) s.heap a o) : Inv X pins σ (upd H a o) s := by
  have other : ∀ {b : Addr} {u : HO}, H b = some u → (upd H a o) b = some u := fun {b u} e => by
    rw [upd_ne (ne_of_none e na)]
    exact e
  refine ⟨I.ok, I.os, I.bare, ⟨I.base.keep, I.base.slot, fun b u e n hx => ?_, I.base.there, fun b xs e => other (I.base.tups b xs e), fun b u xs e => other (I.base.frzs b u xs e), fun b ps e => ?_⟩, I.loc, I.cell, ?_, fun x c e => ?_, fun p hp => ?_, fun b u e => ?_, I.len⟩
  · have hb : b ≠ a := fun z => by
      rw [z, n0] at e
      cases e
    rw [upd_ne hb]
    exact I.base.free b u e n hx
  · obtain ⟨more, q⟩ := I.base.tbls b ps e
    exact ⟨more, other q⟩
  · rw [upd_ne nL.symm]
    exact I.free
  · rw [upd_ne (nC x c e)]
    exact I.freeC x c e
  · obtain ⟨e, n, ne, nf, dd⟩ := I.pin p hp
    exact ⟨e, by rw [upd_ne (nP p hp)]; exact n, ne, nf, dd⟩
  · by_cases hb : b = a
    · subst hb
      rw [upd_same] at e
      cases e
      exact new
    · rw [upd_ne hb] at e
      exact (I.hok b u e).stay (fun c v _ q => q) (fun c q => other q) fun c xs q => other q
theorem suite0 (I : Inv X pins σ H s) (a : Addr) : Inv (X.suite a (X.pn ++ pins)) [] σ H s :=
  ⟨I.ok.suite _ _, I.os, I.bare, I.base, I.loc, I.cell, I.free, I.freeC, fun p hp => I.pin p (by rw [List.append_nil] at hp; exact hp), I.hok, I.len⟩
theorem unsuite0 {a : Addr} {pn' : List (Addr × Obj)} (I : Inv (X.suite a (X.pn ++ pins)) pn' σ H s) (ok : X.Ok) : Inv X pins σ H s :=
  ⟨ok, I.os, I.bare, I.base, I.loc, I.cell, I.free, I.freeC, fun p hp => I.pin p (List.mem_append_left _ hp), I.hok, I.len⟩
end
/-- what the clause asks where the caught exception is kept -/
def wHeld (K : PySem.W.Frag) (c : Value) (i : Nat) (ts : Addr → TS) (D : Ends) : WX := fun cls d σ H =>
  PySem.W.exmOne K cls c = some true ∧ ∀ a, H a = Option.none → ts a { nx := fun σ' H' => D.nx (σ'.set i Option.none) H', rt := D.rt, bk := fun σ' H' => D.bk (σ'.set i Option.none) H', ct := fun σ' H' => D.ct (σ'.set i Option.none) H' } (σ.set i (some (.ref a))) (upd H a (ExH a cls d))
section
variable {X : Cx} {x n : Str} {c : Value} {i : Nat} {body suite : List Stmt} {b₀ : Stmt} {np pos pos' : Pos} {tb : WX → TS} {ts : Addr → TS}
theorem ps_try_held (hs : X.stack = X.env :: X.outer) (hf : X.env.frame = some X.env.locals) (hN : X.N.Nodup) (hi : X.N[i]? = some n) (hln : X.env.kindOf n = some .local) (hc : Names X x c) (hex : X.ex = [])
    (hb : ∀ (W : WX) (pn : List (Addr × Obj)) (xe : Value → Shared → Prop), Takes (X.tr pn xe) W → PassesOwn (model X.prog X.w) X.A X.env xe → PSs (X.tr pn xe) body (tb W))
    (hsu : ∀ (a : Addr) (pn : List (Addr × Obj)), PSs (X.suite a pn) (b₀ :: suite) (ts a)) :
    PS X (.Try body [.ExceptHandler (some (.Name x np)) (some n) (b₀ :: suite) pos'] [] [] pos) (fun D σ H => tb (wHeld X.K c i ts D) D σ H) := by
  refine ⟨fun pins s σ H D I h => ?_⟩
  have ok := I.ok
  have hfr : X.A.frames = some (X.env :: X.outer) := by rw [ok.frames, hs]
  refine wpAny_Try_except ?_
  refine wpAny_mono ((hb (wHeld X.K c i ts D) (X.pn ++ pins) (fun e s₁ => wpAny (model X.prog X.w) X.A (noteFrame e X.env) (fun _ s₂ => wpAny (model X.prog X.w) X.A (setFlight e Option.none) (fun _ s₃ =>
    wpAny (model X.prog X.w) X.A (handleBy e X.env [.ExceptHandler (some (.Name x np)) (some n) (b₀ :: suite) pos']) (SP X pins D) X.xe s₃) X.xe s₂) X.xe s₁) (fun u s' xx => ?_) PassesOwn.looking).run [] s σ H D (I.toTry _) h) (fun f s1 hsp => ?_) (fun e s1 he => he)
  · obtain ⟨a, B, sI, pins', σ', H', cls, d, rfl, J', nb, up, sky, na, os, ag, hb1, hyes⟩ := xx
    have J : Inv X pins σ' H' sI := J'.ofTry ok
    have sky' : Sky B (X.env :: X.outer) a (Zc cls d) X.env.locals s'.heap := by rw [← hs]; exact sky
    show wpAny _ _ (noteFrame (.ref a) X.env) _ _ _
    refine Sky.land Zc.steady hfr hf sky' fun h3 fl3 up3 => ?_
    have J3 : Inv X pins σ' H' { s' with heap := h3 } := J.landed nb fl3.1 (up.trans up3) os ag
    obtain ⟨oe3, vs3, he3, hz3, hd3⟩ := fl3.there
    have nfr : a ∉ frs X.stack := fun hm => by
      rw [hs] at hm
      obtain ⟨_, o', e', hnf⟩ := fl3.2.2.1.mem hm
      rw [he3] at e'
      cases e'
      exact hnf _ hd3
    have nsI : sI.heap.get? a = Option.none := by
      cases q : sI.heap.get? a with
      | none => rfl
      | some o =>
        have z := nb a o q nfr
        rw [fl3.2.1] at z
        cases z
    have n0 : X.s_0.heap.get? a = Option.none := by
      cases q : X.s_0.heap.get? a with
      | none => rfl
      | some o =>
        obtain ⟨o', z⟩ := J.base.there a o q (by rw [hex]; exact List.not_mem_nil)
        rw [nsI] at z
        cases z
    have nL : a ≠ X.env.locals := fun z => nfr (by
      rw [hs]
      exact List.mem_filterMap.mpr ⟨X.env, List.mem_cons_self, by rw [hf, z]⟩)
    have nC : ∀ y c, X.env.cells.lookup y = some c → c ≠ a := fun y c e z => by
      obtain ⟨v, o, ho, _⟩ := J.cell y c e
      rw [z, nsI] at ho
      cases ho
    have nP : ∀ p ∈ X.pn ++ pins, p.1 ≠ a := fun p hp z => by
      have q := (J.pin p hp).1
      rw [z, nsI] at q
      cases q
    have S3 := suite0 J3 a
    refine wpAny_handleBy_cons (codeAny_handlers_test ?_) (by intro q; cases q)
    have LT : PySem.W.Looks (model X.prog X.w) h3 (typeOf (.ref a)) cls := fun A Q E s k q => wpAny_typeOf_ref (k _ _ he3) (by rw [hz3.1]; exact q)
    have LM := PySem.W.exm_one (M := model X.prog X.w) (J3.kIn) LT hb1
    have test : ∀ {Q : Value → Shared → Prop} {E : Value → Shared → Prop}, Q c { s' with heap := h3 } → wpAny (model X.prog X.w) (X.A.mark (some (.ref a))) (eval (.Name x np) X.env) Q E { s' with heap := h3 } := fun {Q E} q => by
      obtain ⟨hg, hdbg, hm | ⟨hm, hv, hnn⟩⟩ := hc
      · exact ld_glob (X := X.suite a (X.pn ++ pins)) S3 hg hm q hdbg
      · exact ld_blt (X := X.suite a (X.pn ++ pins)) S3 hg hm hv q hnn hdbg
    refine test (LM.here ?_)
    refine codeAny_handlers_suite_as ?_
    refine HandSPX.lands_againZ fl3 fun h4 fl4 up4 => ?_
    have J4 : Inv X pins σ' H' { s' with heap := h4 } := J.landed nb fl4.1 ((up.trans up3).trans up4) os ag
    obtain ⟨oe4, vs4, he4, hz4, hd4⟩ := fl4.there
    have T4 := track (o := ExH a cls d) J4 na n0 nL nC nP (exH_ok he4 hz4 hd4)
    have S4 := suite0 T4 a
    refine store_ok (X := X.suite a (X.pn ++ pins)) (v := .ref a) S4 hN hi (.inl hln) rfl (fun s5 S5 => ?_) (.inr hln)
    refine wpAny_mono ((hsu a (X.pn ++ pins)).run [] s5 _ _ _ S5 (hyes a na)) (fun f s6 hsp => ?_) (fun _ _ z => False.elim z)
    have end_ : ∀ {σ6 : L2.St} {H6 : Hp} {Q : Shared → Prop}, Inv (X.suite a (X.pn ++ pins)) [] σ6 H6 s6 → (∀ s7, Inv X pins (σ6.set i Option.none) H6 s7 → Q s7) →
        wpAny (model X.prog X.w) X.A (do bindName X.env n .none; unbindBehindTheSuite X.env n pos') (fun _ s7 => Q s7) X.xe s6 := fun {σ6 H6 Q} S6 hq => gone_ok (unsuite0 S6 ok) hN hi hln hq
    cases f with
    | next =>
      obtain ⟨σ6, H6, S6, q6⟩ := hsp
      exact end_ S6 fun s7 J7 => ⟨_, _, J7, q6⟩
    | brk =>
      obtain ⟨σ6, H6, S6, q6⟩ := hsp
      exact end_ S6 fun s7 J7 => ⟨_, _, J7, q6⟩
    | cont =>
      obtain ⟨σ6, H6, S6, q6⟩ := hsp
      exact end_ S6 fun s7 J7 => ⟨_, _, J7, q6⟩
    | ret u =>
      obtain ⟨v6, σ6, H6, S6, r6, q6⟩ := hsp
      exact end_ S6 fun s7 J7 => ⟨_, _, _, J7, r6, q6⟩
  · cases f with
    | next =>
      obtain ⟨σ', H', J', q⟩ := hsp
      exact wpAny_execs_nil ⟨σ', H', J'.ofTry ok, q⟩
    | brk =>
      obtain ⟨σ', H', J', q⟩ := hsp
      exact ⟨σ', H', J'.ofTry ok, q⟩
    | cont =>
      obtain ⟨σ', H', J', q⟩ := hsp
      exact ⟨σ', H', J'.ofTry ok, q⟩
    | ret u =>
      obtain ⟨v, σ', H', J', r, q⟩ := hsp
      exact ⟨v, σ', H', J'.ofTry ok, r, q⟩
end
/-! ### isinstance(x, C), x a kept exception of just that class -/
theorem ans_same {x t : Value} {P : Heap → Prop} (ty : ∀ (M : Model) (h : Heap), P h → PySem.W.Looks M h (typeOf x) t) : Answers (fun s => P s.heap) x t true := by
  intro dep tk prog w A R s hs
  obtain ⟨h0, g, d, tt, os⟩ := s
  obtain ⟨p, hq⟩ := hs
  have LT := ty (model prog w) h0 p
  unfold Builtin.«isinstance.nested»
  refine wpAny_bind (LT.at ?_)
  have q : (t == t) = true := beq_self_eq_true t
  rw [if_pos q]
  first
    | exact wpAny_bind (wpAny_rule (hq tt))
    | exact wpAny_bind (wpAny_rule (wpAny_pure (hq tt)))
    | exact wpAny_pure (hq tt)
def rIsX : List V → Hp → VK → Prop := fun xs H Q => ∃ (a C : Addr) (d : Option Addr), xs = [.ref a, .ref C] ∧ H a = some (ExH a (.ref C) d) ∧ Q (.bl true) H
theorem call_isX {X : Cx} : CallR X (.builtin "isinstance") rIsX := by
  intro pins s σ H xs us Q I r h
  obtain ⟨a, C, d, rfl, e, q⟩ := h
  obtain ⟨u1, u2, rfl, r1, r2⟩ := vals2 r
  obtain rfl : u1 = Value.ref a := r1
  obtain rfl : u2 = Value.ref C := r2
  obtain ⟨o, vs, ho, z, f⟩ := exH_at I.hok e
  refine call_isinstance (S := fun _ R s => (∃ o, s.heap.get? a = some o ∧ o.cls = .ref C) ∧ ∀ tk, R (.ok (.ret (.bool true))) { s with toks := tk })
    (fun prog w A R s hs => isinstance_outer (ans_same (P := fun h => ∃ o, h.get? a = some o ∧ o.cls = .ref C) (fun M h ⟨o, e, c⟩ => fun A Q E s k q => wpAny_typeOf_ref (k _ _ e) (by rw [c]; exact q)) 0 _ prog w A R s hs) (fun z => nomatch z)) ⟨⟨o, ho, z.1⟩, fun tk => ⟨.bl true, H, I.tok tk, rfl, q⟩⟩
/-! ### x.f, x a kept exception -/
def tFldX (K : PySem.W.Frag) (f : Str) (te : TE) : TE := fun σ H Q => te σ H fun x H1 => ∃ (a C dd : Addr) (fs : List (Str × V)) (v : V), x = .ref a ∧ XfC K C ∧ PySem.W.findIn K (.ref C) f = some Option.none ∧ H1 a = some (ExH a (.ref C) (some dd)) ∧ H1 dd = some (.xd fs) ∧ fs.lookup f = some v ∧ Q v H1
theorem pe_fldX {X : Cx} {e : Expr} {te : TE} {pos : Pos} {n : Str} (he : PE X e te) (hb : attributeBase e n X.env (eval e X.env) = eval e X.env := by rfl) : PE X (.Attribute e n pos) (tFldX X.K n te) := by
  refine ⟨fun pins s σ H Q I h => ?_⟩
  refine attr_of hb (thn (he.run pins s σ H _ I h) fun u s1 hh => ?_)
  obtain ⟨x, H1, I1, rx, a, C, dd, fs, v, ex, T, hno, eh, ea, l, q⟩ := hh
  subst ex
  obtain rfl : u = Value.ref a := rx
  obtain ⟨oe, vs, ha, hz, hd⟩ := exH_at I1.hok eh
  have hx : ObjOk X.prog X.w H1 s1.heap dd (.xd fs) := I1.hok dd _ ea
  obtain ⟨mA, hns, hr⟩ := hx
  obtain ⟨od, ho, hl⟩ := lookIn_ns hns
  obtain ⟨u, hu, ru⟩ := RelO.some_of (v := v) (o := mA n) (by rw [← l]; exact hr n)
  have J : PySem.W.InstAt s1.heap a oe C (some od) := ⟨ha, hz.1, by unfold PySem.W.notCls; rw [hd] <;> rfl, by rw [hz.2]; exact ho⟩
  exact HandSPX.exc_get I1.kIn J T.ga T.gg T.exC (PySem.W.findObj_own T.hdC hno rfl (by rw [hl, hu])) (handed_of ru) ⟨v, H1, I1.tok _, ru, q⟩
end Cm

/-! what once in the place of keep leaves; paths that lead to no keep -/
namespace Cm
open PySem L2 PySem.Spec PyProof.Rows
theorem pathsL_of {S : List (List Int)} {pre : List Int} : ∀ (ts : List Tr) (i j : Nat), (∀ t ∈ ts, ∀ q, (t.rw S q).paths = t.paths) → Tr.pathsL i (Tr.rwL S pre j ts) = Tr.pathsL i ts
  | [], _, _, _ => rfl
  | t :: ts, i, j, h => by
    show (Tr.rw S (pre ++ [((j : Nat) : Int)]) t).paths.map _ ++ Tr.pathsL (i + 1) (Tr.rwL S pre (j + 1) ts) = t.paths.map _ ++ Tr.pathsL (i + 1) ts
    rw [h t List.mem_cons_self, pathsL_of ts (i + 1) (j + 1) fun u m => h u (List.mem_cons_of_mem _ m)]
theorem paths_rw {S : List (List Int)} (t : Tr) : ∀ pre, (t.rw S pre).paths = t.paths := by
  refine tr_ind (P := fun t => ∀ pre, (t.rw S pre).paths = t.paths) (fun h ps ih pre => ?_) t
  show ([] : List Int) :: Tr.pathsL 0 (Tr.rwL S pre 0 ps) = [] :: Tr.pathsL 0 ps
  rw [pathsL_of ps 0 0 ih]
theorem size_rw {S : List (List Int)} (t : Tr) (pre : List Int) : (t.rw S pre).size = t.size := by
  rw [← paths_len, ← paths_len, paths_rw]
theorem depsL_of {S : List (List Int)} {pre : List Int} : ∀ (ts : List Tr) (j : Nat), (∀ t ∈ ts, ∀ q, (t.rw S q).dep = t.dep) → Tr.deps (Tr.rwL S pre j ts) = Tr.deps ts
  | [], _, _ => rfl
  | t :: ts, j, h => by
    show max (Tr.rw S (pre ++ [((j : Nat) : Int)]) t).dep (Tr.deps (Tr.rwL S pre (j + 1) ts)) = max t.dep (Tr.deps ts)
    rw [h t List.mem_cons_self, depsL_of ts (j + 1) fun u m => h u (List.mem_cons_of_mem _ m)]
theorem dep_rw {S : List (List Int)} (t : Tr) : ∀ pre, (t.rw S pre).dep = t.dep := by
  refine tr_ind (P := fun t => ∀ pre, (t.rw S pre).dep = t.dep) (fun h ps ih pre => ?_) t
  show Tr.deps (Tr.rwL S pre 0 ps) + 1 = Tr.deps ps + 1
  rw [depsL_of ps 0 ih]
theorem at_rw {S : List (List Int)} : ∀ (p pre : List Int) (t s : Tr), Tr.at p t = some s → Tr.at p (t.rw S pre) = some (s.rw S (pre ++ p))
  | [], pre, t, s, e => by
    cases e
    rw [List.append_nil]
    rfl
  | i :: r, pre, .mk h ps, s, e => by
    have e' : (if 0 ≤ i then (ps[i.toNat]?).bind (Tr.at r) else none) = some s := e
    have h0 : 0 ≤ i := by
      by_cases q : 0 ≤ i
      · exact q
      · rw [if_neg q] at e'
        cases e'
    obtain ⟨m, rfl⟩ : ∃ m : Nat, i = (m : Int) := ⟨i.toNat, by omega⟩
    rw [if_pos h0, Int.toNat_natCast] at e'
    cases ec : ps[m]? with
    | none => rw [ec] at e'; cases e'
    | some c =>
      rw [ec] at e'
      have g := at_rw (S := S) r (pre ++ [(m : Int)]) c s e'
      show (if 0 ≤ (m : Int) then ((Tr.rwL S pre 0 ps)[(m : Int).toNat]?).bind (Tr.at r) else none) = _
      rw [if_pos h0, Int.toNat_natCast, rwL_at, ec, Nat.zero_add]
      show Tr.at r (Tr.rw S (pre ++ [(m : Int)]) c) = _
      rw [g, List.append_assoc]
      rfl
theorem hd_rw {S : List (List Int)} {pre : List Int} (t : Tr) : (t.rw S pre).hd = reword (decide (pre ∈ S)) t.hd := by
  cases t
  rfl
theorem isKeep_reword (b : Bool) (h : Hd) : isKeep (reword b h) = (isKeep h && !b) := by
  cases h with
  | one w x =>
    show isKeep (if b = true ∧ w = "keep" then Hd.one "once" x else Hd.one w x) = (decide (w = "keep") && !b)
    cases b with
    | true =>
      by_cases q : w = "keep"
      · rw [if_pos ⟨rfl, q⟩, decide_eq_true q]
        have e : decide (("once" : Str) = "keep") = false := by decide +kernel
        exact e
      · rw [if_neg (fun z => q z.2), decide_eq_false q]
        exact decide_eq_false q
    | false =>
      rw [if_neg (fun z => by cases z.1), Bool.not_false, Bool.and_true]
      rfl
  | _ => rfl
theorem keepAt_rw {S : List (List Int)} {t s : Tr} {p : List Int} (e : Tr.at p t = some s) : keepAt (t.rw S []) p = (keepAt t p && !decide (p ∈ S)) := by
  unfold keepAt
  rw [at_rw p [] t s e, e, List.nil_append]
  show isKeep (s.rw S p).hd = (isKeep s.hd && _)
  rw [hd_rw, isKeep_reword]
theorem keepPaths_rw (S : List (List Int)) (t : Tr) : keepPaths (t.rw S []) = (keepPaths t).filter fun p => !decide (p ∈ S) := by
  unfold keepPaths
  rw [paths_rw, List.filter_filter]
  refine List.filter_congr fun p hp => ?_
  obtain ⟨s, e⟩ := paths_at t.dep t (Nat.le_refl _) p hp
  rw [keepAt_rw e, Bool.and_comm]
theorem keepAt_of_mem {t : Tr} {p : List Int} (h : p ∈ keepPaths t) : keepAt t p = true := (List.mem_filter.mp h).2
theorem keepAt_other {t : Tr} {p : List Int} (h1 : p ∈ t.paths) (h2 : ¬ p ∈ keepPaths t) : keepAt t p = false := by
  cases e : keepAt t p with
  | false => rfl
  | true => exact absurd (List.mem_filter.mpr ⟨h1, e⟩) h2
theorem keepAt_told {t : Tr} {S : List (List Int)} {p : List Int} (h : p ∈ keepPaths t) (hS : p ∈ S) : keepAt (t.rw S []) p = false := by
  obtain ⟨s, e⟩ := paths_at t.dep t (Nat.le_refl _) p (List.mem_filter.mp h).1
  rw [keepAt_rw e, decide_eq_true hS]
  simp
theorem at_far {t : Tr} (o : t.ok) {n : Nat} (h : 11 ≤ n) : Tr.at [((n : Nat) : Int)] t = Option.none := by
  cases t with
  | mk h ps =>
    have o' : hok h ps.length ∧ ps.length ≤ 11 ∧ Tr.oks ps := o
    rw [at_one]
    exact List.getElem?_eq_none (by omega)
theorem keepAt_none {t : Tr} {p : List Int} (h : Tr.at p t = Option.none) : keepAt t p = false := by
  unfold keepAt
  rw [h]
theorem keepAt_far {t : Tr} (o : t.ok) (p : List Int) {n : Nat} (h : 11 ≤ n) : keepAt t (p ++ [((n : Nat) : Int)]) = false := by
  refine keepAt_none ?_
  rw [at_snoc]
  cases e : Tr.at p t with
  | none => rfl
  | some s => exact at_far (at_ok p o e) h
theorem keepAt_neg (t : Tr) : keepAt t [-1] = false := by
  cases t
  rfl
theorem keepAt_long {t : Tr} {p : List Int} (h : t.dep < p.length) : keepAt t p = false := by
  refine keepAt_none ?_
  cases e : Tr.at p t with
  | none => rfl
  | some s =>
    have := at_dep p e
    omega
end Cm

namespace K26
open PySem L2 Cm
def top (i : Nat) : Stmt := PySem.Challenge.pw_goonagain_k26_once_in_the_place_of_keep.main.body.getD i (.Pass ⟨0, 0, 0, 0⟩)
structure Txt (mg : Str → Option Value) : Prop where
  abs : mg "abs" = none
  enumerate : mg "enumerate" = none
  int : mg "int" = none
  isinstance : mg "isinstance" = none
  len : mg "len" = none
  list : mg "list" = none
  min : mg "min" = none
  range : mg "range" = none
  tuple : mg "tuple" = none
  zip : mg "zip" = none
section
variable {P : Program} {w : World} {K : PySem.W.Frag} {mg : Str → Option Value} {base : Heap}
-- mix
abbrev s_l_mix : Stmt := top 13
abbrev N_l_mix : List Str := ["_law_number", "_law_turn", "_law_once", "_law_twice"]
theorem sc_l_mix : FnScope N_l_mix ["_law_number", "_law_turn"] (defScope s_l_mix) := ⟨rfl, rfl, rfl, by decide +kernel, rfl, by decide +kernel, by decide +kernel⟩
theorem ok_mix (T : Txt mg) (D : At K mg "_law_mix" s_l_mix ["_law_number", "_law_turn"]) : Cl P w K mg base 1 "_law_mix" spMix := by
  refine cl_of D sc_l_mix (fun vs H Q E h => ?_) fun f cdv A outer s H vs Q E hr h => ?_
  · obtain ⟨a, b, rfl, _⟩ := h
    rfl
  · obtain ⟨a, b, rfl, k⟩ := h
    refine ⟨_, (pss_cons (ps_set (i := 2) sc_l_mix.nd rfl (Or.inl rfl) (pe_op op_mod (pe_callTy call_int1 (by rfl) T.int (by decide +kernel) (pa_cons (pe_op op_add (pe_op op_add (pe_op op_mul (pv 0) pe_int) (pe_op op_mul (pv 1) pe_int)) pe_int) pa_nil)) pe_int))
      (pss_cons (ps_set (i := 3) sc_l_mix.nd rfl (Or.inl rfl) (pe_op op_mod (pe_callTy call_int1 (by rfl) T.int (by decide +kernel) (pa_cons (pe_op op_add (pe_op op_add (pe_op op_mul (pv 2) (pv 2)) (pe_op op_mul (pe_op op_fdiv (pv 2) pe_int) pe_int)) (pe_op op_mul (pv 1) pe_int)) pa_nil)) pe_int))
      (pss_one (ps_ret (pe_op op_fdiv (pe_op op_mod (pe_callTy call_int1 (by rfl) T.int (by decide +kernel) (pa_cons (pe_op op_add (pe_op op_fdiv (pe_op op_mul (pv 3) (pv 3)) pe_int) (pv 2)) pa_nil)) pe_int) pe_int))))), ?_⟩
    refine ⟨_, rfl, _, _, rfl, rfl, .inr (by decide), ?_⟩
    refine ⟨_, rfl, _, _, rfl, rfl, .inr (by decide), ?_⟩
    refine ⟨_, _, rfl, rfl, _, _, rfl, rfl, .inl ⟨_, rfl, _, _, rfl, rfl, (by show (0 : Int) < _; decide), ?_⟩⟩
    generalize hx : (a * 48271 + b * 16807 + 11) % 2147483647 = x
    have x0 : 0 ≤ x := by omega
    have x1 : x < 2147483647 := by omega
    clear hx
    refine ⟨_, rfl, _, rfl, _, _, rfl, rfl, .inl ⟨by omega, by omega⟩, ?_⟩
    refine ⟨_, rfl, _, _, rfl, rfl, ⟨by decide, by decide⟩, _, _, rfl, rfl, .inr (by decide), ?_⟩
    refine ⟨_, _, rfl, rfl, _, rfl, _, _, rfl, rfl, .inr (by decide), _, _, rfl, rfl, .inl ⟨_, rfl, _, _, rfl, rfl, (by show (0 : Int) < _; decide), ?_⟩⟩
    generalize hy : (x * x + x / 127 * 40692 + b * 69621) % 2147483399 = y
    have y0 : 0 ≤ y := by omega
    have y1 : y < 2147483399 := by omega
    clear hy
    refine ⟨_, rfl, _, rfl, _, _, rfl, rfl, .inl ⟨by omega, by omega⟩, _, _, rfl, rfl, ⟨by decide, by decide⟩, ?_⟩
    refine ⟨_, rfl, _, _, rfl, rfl, .inl ⟨_, rfl, _, _, rfl, rfl, (by show (0 : Int) < _; decide), _, _, rfl, rfl, ⟨by decide, by decide⟩, ?_⟩⟩
    exact k _
-- hand
abbrev s_l_hand : Stmt := top 14
abbrev N_l_hand : List Str := ["_law_script", "_law_total", "_law_k", "_law_cell"]
theorem sc_l_hand : FnScope N_l_hand ["_law_script"] (defScope s_l_hand) := ⟨rfl, rfl, rfl, by decide +kernel, rfl, by decide +kernel, by decide +kernel⟩
theorem ok_hand (T : Txt mg) (D : At K mg "_law_hand" s_l_hand ["_law_script"]) : Cl P w K mg base 1 "_law_hand" (spHand K) := by
  refine cl_of D sc_l_hand (fun vs H Q E h => ?_) fun f cdv A outer s H vs Q E hr h => ?_
  · obtain ⟨a, ns, rfl, _⟩ := h
    rfl
  · obtain ⟨a, ns, rfl, hS, hlen, k⟩ := h
    refine ⟨_, (pss_cons (ps_set (i := 1) sc_l_hand.nd rfl (Or.inl rfl) pe_int)
      (pss_cons (ps_for PassesOwn.never rfl (pi_enum (by rfl) T.enumerate (pa_cons (pv 0) pa_nil)) (pg_tup (by rfl) (pgs_cons (pg_name (i := 2) sc_l_hand.nd rfl (Or.inl rfl)) (pgs_cons (pg_name (i := 3) sc_l_hand.nd rfl (Or.inl rfl)) pgs_nil)))
        (pss_one (ps_set (i := 1) sc_l_hand.nd rfl (Or.inl rfl) (pe_op op_mod (pe_callTy call_int1 (by rfl) T.int (by decide +kernel) (pa_cons (pe_op op_add (pe_op op_mul (pv 1) pe_int) (pe_op op_mul (pe_callTy call_int1 (by rfl) T.int (by decide +kernel) (pa_cons (pv 3) pa_nil)) (pe_op op_add (pv 2) pe_int))) pa_nil)) pe_int))))
      (pss_one (ps_ret (pe_lst (pa_cons (pe_lc (own := [("_law_cell", 3)]) rfl sc_l_hand.nd (pi_list (pv 0)) (blkOk_by (N := N_l_hand) (sc := defScope s_l_hand) (by decide +kernel))
      (fun _ _ _ _ _ => (pg_name (i := 3) sc_l_hand.nd rfl (Or.inl rfl)))
      (fun _ _ _ _ _ => pts_nil)
      (fun _ _ _ _ _ => (pe_callB call_abs (by rfl) T.abs (by decide +kernel) (pa_cons (pe_callTy call_int1 (by rfl) T.int (by decide +kernel) (pa_cons (pv 3) pa_nil)) pa_nil)))) (pa_cons pe_int (pa_cons pe_int (pa_cons (pv 1) pa_nil))))))))), ?_⟩
    refine ⟨_, rfl, a, _, rfl, hS, ?_⟩
    refine for_it (walk_enum (xs := ns.map V.int)) (fun i σ H' => ∃ (t : Int) (v2 v3 : Option V), σ = [some (.ref a), some (.int t), v2, v3] ∧ Same H H') ⟨0, none, none, rfl, Same.refl H⟩ (fun i σ H' _ z => ?_) ?_ ?_
    · obtain ⟨t, v2, v3, rfl, s1⟩ := z
      exact s1.seq hS
    · rintro i x σ H1 H2 hi ⟨t, v2, v3, rfl, s1⟩ ⟨T1, x1, x2, rfl, hT, rfl, e1, e2⟩
      cases e1
      obtain ⟨n, en, rfl⟩ := map_at e2
      refine ⟨T1, _, rfl, .inl (.inl upd_same), rfl, _, _, rfl, _, _, rfl, rfl, ?_⟩
      refine ⟨_, rfl, _, _, rfl, rfl, .inr (by decide), _, rfl, .inl ⟨_, rfl, ?_⟩⟩
      refine ⟨_, rfl, _, _, rfl, rfl, _, _, rfl, rfl, .inr ⟨?_, ?_⟩, ?_⟩
      · rw [List.length_map] at hi
        omega
      · rw [List.length_map] at hi
        omega
      refine ⟨_, _, rfl, rfl, .inl ⟨_, rfl, _, _, rfl, rfl, (by show (0 : Int) < _; decide), ?_⟩⟩
      exact ⟨_, _, _, rfl, s1.trans (same_new hT)⟩
    · rintro σ H1 ⟨t, v2, v3, rfl, s1⟩
      refine ⟨_, rfl, a, rfl, ⟨_, s1.seq hS⟩, fun D hD => ?_⟩
      refine lc_it (walk_list (xs := ns.map V.int)) (fun i H' => ∃ acc : List Int, Same H1 H' ∧ H' D = some (.lst (acc.map V.int)) ∧ acc.length = i) ⟨[], same_new hD, upd_same, rfl⟩ (fun i H' _ z => ?_) ?_ ?_
      · obtain ⟨acc, s2, _⟩ := z
        exact (s1.trans s2).seq hS
      · rintro i x H2 H3 hi ⟨acc, s2, hacc, hl⟩ ⟨rfl, e2⟩
        obtain ⟨n, en, rfl⟩ := map_at e2
        rw [List.length_map] at hi
        refine ⟨rfl, ?_⟩
        refine ⟨_, rfl, .inl ⟨_, rfl, _, rfl, _, hacc, ?_, ?_⟩⟩
        · rw [List.length_map]
          exact Nat.lt_of_lt_of_le (show acc.length < 63 by omega) (by decide)
        · refine ⟨acc ++ [if n < 0 then -n else n], fun b o e => ?_, ?_, ?_⟩
          · have hb : b ≠ D := ne_of_none e hD
            rw [upd_ne hb]
            exact s2 b o e
          · rw [upd_same, List.map_append]
            rfl
          · rw [List.length_append, hl]
            rfl
      · rintro H2 ⟨acc, s2, hacc, hl⟩
        refine ⟨_, rfl, by show 4 ≤ sizeLine; decide, fun p hp => ?_⟩
        rw [List.length_map] at hl
        have npD : D ≠ p := ne_of_none hacc hp
        refine k p D _ ((s1.trans s2).trans (same_new hp)) ((s1.trans s2).free hp) (s1.free hD) ⟨acc, _, _, _, upd_same, ?_, npD, Int.le_refl 0, by omega⟩
        rw [upd_ne npD]
        exact hacc
end
section
variable {P : Program} {w : World} {K : PySem.W.Frag} {mg : Str → Option Value} {base : Heap}
abbrev s_l_draw : Stmt := top 15
abbrev N_l_draw : List Str := ["_law_hand_here", "_law_many", "_law_cell", "_law_rest"]
theorem sc_l_draw : FnScope N_l_draw ["_law_hand_here", "_law_many"] (defScope s_l_draw) := ⟨rfl, rfl, rfl, by decide +kernel, rfl, by decide +kernel, by decide +kernel⟩
theorem ok_draw (T : Txt mg) (c_l_mix : Cl P w K mg base 1 "_law_mix" spMix) (D : At K mg "_law_draw" s_l_draw ["_law_hand_here", "_law_many"]) : Cl P w K mg base 2 "_law_draw" spDraw := by
  refine cl_of D sc_l_draw (fun vs H Q E h => ?_) fun f cdv A outer s H vs Q E hr h => ?_
  · obtain ⟨h, c, m, rfl, _⟩ := h
    rfl
  · obtain ⟨h, c, m, rfl, ⟨cells, i, b, t, e1, e2, nch, hi, hlen⟩, hm0, hm1, k⟩ := h
    refine ⟨_, (pss_mid (ps_if (PW.pt (pw_and (pt_cmpR op_eq (pe_ix ix_list (pv 0) pe_int (fun _ _ => rfl)) pe_int (nomark _)) (pw_and1 (pt_cmpR op_lt (pe_ix ix_list (pv 0) pe_int (fun _ _ => rfl)) (pe_callB call_len_seq (by rfl) T.len (by decide +kernel) (pa_cons (pe_ix ix_list (pv 0) pe_int (fun _ _ => rfl)) pa_nil)) (nomark _)))))
        (pss_cons (ps_set (i := 2) sc_l_draw.nd rfl (Or.inl rfl) (pe_ix ix_list (pe_ix ix_list (pv 0) pe_int (fun _ _ => rfl)) (pe_ix ix_list (pv 0) pe_int (fun _ _ => rfl)) (fun _ _ => rfl)))
        (pss_cons (ps_asg (pe_op op_add (pe_ix ix_list (pv 0) pe_int (fun _ _ => rfl)) pe_int) (pg_sub (pv 0) pe_int set_list))
        (pss_cons (ps_if (pt_cmpR op_lt (pv 2) (pe_op op_pow pe_int pe_int) (nomark _))
          (pss_one (ps_ret (pe_op op_mod (pe_callTy call_int1 (by rfl) T.int (by decide +kernel) (pa_cons (pe_c c_l_mix hr (by decide) (by rfl) (pa_cons (pe_op op_mod (pe_callTy call_int1 (by rfl) T.int (by decide +kernel) (pa_cons (pv 2) pa_nil)) pe_int) (pa_cons (pe_ix ix_list (pv 0) pe_int (fun _ _ => rfl)) pa_nil))) pa_nil)) (pv 1))))
          pss_nil)
        (pss_one (ps_asg (pv 2) (pg_sub (pv 0) pe_int set_list))))))
        pss_nil)
      (pss_cons (ps_if (pt_cmpR op_gt (pe_ix ix_list (pv 0) pe_int (fun _ _ => rfl)) pe_int (nomark _))
        (pss_cons (ps_set (i := 3) sc_l_draw.nd rfl (Or.inl rfl) (pe_ix ix_list (pv 0) pe_int (fun _ _ => rfl)))
        (pss_cons (ps_asg (pe_op op_fdivW (pv 3) (pv 1)) (pg_sub (pv 0) pe_int set_list))
        (pss_one (ps_ret (pe_op op_mod (pe_callTy call_int1 (by rfl) T.int (by decide +kernel) (pa_cons (pv 3) pa_nil)) (pv 1))))))
        pss_nil)
      (pss_cons (ps_asg (pe_op op_mod (pe_callTy call_int1 (by rfl) T.int (by decide +kernel) (pa_cons (pe_op op_add (pe_ix ix_list (pv 0) pe_int (fun _ _ => rfl)) pe_int) pa_nil)) pe_int) (pg_sub (pv 0) pe_int set_list))
      (pss_one (ps_ret (pe_op op_mod (pe_callTy call_int1 (by rfl) T.int (by decide +kernel) (pa_cons (pe_c c_l_mix hr (by decide) (by rfl) (pa_cons (pe_ix ix_list (pv 0) pe_int (fun _ _ => rfl)) (pa_cons (pe_ix ix_list (pv 0) pe_int (fun _ _ => rfl)) pa_nil))) pa_nil)) (pv 1))))))), ?_⟩
    have big : CDivW b m := wide_div (b := 100) hm0 (by omega) (by decide) (by decide)
    have kh0 : ∀ {ys : List V}, Kh h H (upd H h (.lst ys)) := Kp.put (fun a ha => by rw [ha]; exact ⟨_, e1⟩) rfl
    refine ⟨fun σ' H' => ∃ (i b t : Int) (v2 v3 : Option V), σ' = [some (.ref h), some (.int m), v2, v3] ∧ Kh h H H' ∧ H' h = some (.lst [.ref c, .int i, .int b, .int t]) ∧ H' c = some (.lst (cells.map V.int)) ∧ 0 ≤ i, ?_, ?_⟩
    · refine ⟨_, rfl, _, _, _, _, rfl, rfl, .inl (.inl e1), rfl, rfl, _, rfl, ?_⟩
      refine ite2 (fun _ => ?_) (fun _ => ?_)
      · refine ⟨_, rfl, _, _, _, _, rfl, rfl, .inl (.inl e1), rfl, _, rfl, _, _, _, _, rfl, rfl, .inl (.inl e1), rfl, c, _, rfl, .inl (.inl (.inl e2)), _, _, rfl, rfl, _, rfl, ?_⟩
        refine ite2 (fun hlt => ?_) (fun _ => ?_)
        · have hlt' : i < (cells.length : Int) := by
            have := of_decide_eq_true hlt
            rw [List.length_map] at this
            exact this
          obtain ⟨j, rfl⟩ : ∃ j : Nat, i = (j : Int) := ⟨i.toNat, by omega⟩
          have hj : j < cells.length := by omega
          have hat : atI (cells.map V.int) (j : Int) = some (.int cells[j]) := atI_nat (by rw [List.getElem?_map, List.getElem?_eq_getElem hj]; rfl)
          refine ⟨_, rfl, _, _, _, _, rfl, rfl, .inl (.inl e1), rfl, _, rfl, _, _, _, _, rfl, rfl, .inl (.inl e1), rfl, c, _, _, _, rfl, rfl, .inl (.inl e2), hat, ?_⟩
          refine ⟨_, rfl, _, _, _, _, rfl, rfl, .inl (.inl e1), rfl, _, _, rfl, rfl, _, rfl, h, _, _, 1, rfl, rfl, e1, rfl, ?_⟩
          have e2' : upd H h (.lst [.ref c, .int ((j : Int) + 1), .int b, .int t]) c = some (.lst (cells.map V.int)) := by rw [upd_ne nch]; exact e2
          refine ⟨_, rfl, _, _, rfl, rfl, ⟨by decide, by decide, by decide⟩, _, _, rfl, rfl, _, rfl, ?_⟩
          refine ite2 (fun _ => ?_) (fun _ => ?_)
          · refine ⟨_, rfl, .inl ⟨_, rfl, _, _, rfl, rfl, (by show (0 : Int) < _; decide), _, rfl, _, _, _, _, rfl, rfl, .inl (.inl upd_same), rfl, ?_⟩⟩
            refine ⟨_, _, rfl, fun n => .inl ⟨_, rfl, _, rfl, _, _, rfl, rfl, hm0, ?_⟩⟩
            exact k _ _ (Int.emod_nonneg _ (by omega)) (Int.emod_lt_of_pos _ hm0) kh0 ⟨cells, _, _, _, upd_same, e2', nch, by omega, hlen⟩
          · refine ⟨_, rfl, _, rfl, h, _, _, 2, rfl, rfl, upd_same, rfl, ?_⟩
            rw [upd_upd]
            exact ⟨_, _, _, _, _, rfl, kh0, upd_same, by rw [upd_ne nch]; exact e2, by omega⟩
        · exact ⟨i, b, t, _, _, rfl, Kp.refl (fun a ha => by rw [ha]; exact ⟨_, e1⟩), e1, e2, hi⟩
      · exact ⟨i, b, t, _, _, rfl, Kp.refl (fun a ha => by rw [ha]; exact ⟨_, e1⟩), e1, e2, hi⟩
    · rintro σ' H' ⟨i, b, t, v2, v3, rfl, kh, e1, e2, hi⟩
      have kh1 : ∀ {ys : List V}, Kh h H (upd H' h (.lst ys)) := kh.trans (Kp.put (fun a ha => by rw [ha]; exact ⟨_, e1⟩) rfl)
      refine ⟨_, rfl, _, _, _, _, rfl, rfl, .inl (.inl e1), rfl, _, _, rfl, rfl, _, rfl, ?_⟩
      refine ite2 (fun _ => ?_) (fun _ => ?_)
      · refine ⟨_, rfl, _, _, _, _, rfl, rfl, .inl (.inl e1), rfl, _, rfl, _, rfl, _, _, rfl, rfl, big, _, rfl, h, _, _, 2, rfl, rfl, e1, rfl, ?_⟩
        refine ⟨_, rfl, .inl ⟨_, rfl, _, rfl, _, _, rfl, rfl, hm0, ?_⟩⟩
        exact k _ _ (Int.emod_nonneg _ (by omega)) (Int.emod_lt_of_pos _ hm0) kh1 ⟨cells, _, _, _, upd_same, by rw [upd_ne nch]; exact e2, nch, hi, hlen⟩
      · refine ⟨_, rfl, _, _, _, _, rfl, rfl, .inl (.inl e1), rfl, _, _, rfl, rfl, .inl ⟨_, rfl, _, _, rfl, rfl, (by show (0 : Int) < _; decide), _, rfl, h, _, _, 3, rfl, rfl, e1, rfl, ?_⟩⟩
        refine ⟨_, rfl, _, _, _, _, rfl, rfl, .inl (.inl upd_same), rfl, _, rfl, _, _, _, _, rfl, rfl, .inl (.inl upd_same), rfl, ?_⟩
        refine ⟨_, _, rfl, fun n => .inl ⟨_, rfl, _, rfl, _, _, rfl, rfl, hm0, ?_⟩⟩
        exact k _ _ (Int.emod_nonneg _ (by omega)) (Int.emod_lt_of_pos _ hm0) kh1 ⟨cells, _, _, _, upd_same, by rw [upd_ne nch]; exact e2, nch, hi, hlen⟩
end
section
variable {P : Program} {w : World} {K : PySem.W.Frag} {mg : Str → Option Value} {base : Heap}
abbrev s_l_pick : Stmt := top 16
abbrev N_l_pick : List Str := ["_law_hand_here", "_law_things"]
theorem sc_l_pick : FnScope N_l_pick ["_law_hand_here", "_law_things"] (defScope s_l_pick) := ⟨rfl, rfl, rfl, by decide +kernel, rfl, by decide +kernel, by decide +kernel⟩
theorem ok_pick (T : Txt mg) (c_l_draw : Cl P w K mg base 2 "_law_draw" spDraw) (D : At K mg "_law_pick" s_l_pick ["_law_hand_here", "_law_things"]) : Cl P w K mg base 3 "_law_pick" (spPick K) := by
  refine cl_of D sc_l_pick (fun vs H Q E h => ?_) fun f cdv A outer s H vs Q E hr h => ?_
  · obtain ⟨h, c, a, xs, rfl, _⟩ := h
    rfl
  · obtain ⟨h, c, a, xs, rfl, hh, hx, hne, hlen, k⟩ := h
    have hpos : 0 < xs.length := List.length_pos_iff.mpr hne
    refine ⟨_, (pss_one (ps_ret (pe_ix ix_seq (pv 1) (pe_c c_l_draw hr (by decide) (by rfl) (pa_cons (pv 0) (pa_cons (pe_callB call_len_seq (by rfl) T.len (by decide +kernel) (pa_cons (pv 1) pa_nil)) pa_nil))) (fun _ _ => rfl)))), ?_⟩
    refine ⟨_, rfl, _, rfl, _, rfl, a, xs, rfl, ?_, h, c, _, rfl, hh, by omega, Int.lt_of_le_of_lt (show (xs.length : Int) ≤ 1000 by omega) (by decide), fun n H1 h0 h1 kh hh1 => ?_⟩
    · rcases hx with hx | hx
      · exact .inl hx.1
      · exact .inr hx
    · obtain ⟨j, rfl⟩ : ∃ j : Nat, n = (j : Int) := ⟨n.toNat, by omega⟩
      have hj : j < xs.length := by omega
      have hat : atI xs (j : Int) = some xs[j] := atI_nat (List.getElem?_eq_getElem hj)
      rcases hx with ⟨hx, hn⟩ | hx
      · refine .inl ⟨a, xs, _, _, rfl, rfl, ?_, hat, k _ _ (List.getElem_mem hj) kh hh1⟩
        rcases hx with (q | ⟨o, q⟩) | q
        · exact .inl (.inl (kh.st _ _ hn q))
        · exact .inl (.inr ⟨o, kh.st _ _ hn q⟩)
        · exact .inr q
      · exact .inr (.inl ⟨a, xs, _, _, rfl, rfl, kh.tup hx, hat, k _ _ (List.getElem_mem hj) kh hh1⟩)
end
end K26

namespace K26
open PySem L2 Cm
/-- the parts of a form, as a tuple -/
def spParts (K : PySem.W.Frag) : Sp := fun vs H Q _ => ∃ (v : V) (h : Hd) (ds : List PyData), vs = [v] ∧ Dp K H v (encH h ds) ∧ hok h ds.length ∧ flatDs ds = true ∧ ds.length ≤ 100 ∧
  ∀ (t : Addr) (us : List V) (H' : Hp), Same H H' → SqT K H' t us → DpAll K H' us ds → Q (.ref t) H'
section
variable {P : Program} {w : World} {K : PySem.W.Frag} {mg : Str → Option Value} {base : Heap}
abbrev s_p_parts_of : Stmt := top 4
abbrev N_p_parts_of : List Str := ["tree", "word", "_", "side"]
theorem sc_p_parts_of : FnScope N_p_parts_of ["tree"] (defScope s_p_parts_of) := ⟨rfl, rfl, rfl, by decide +kernel, rfl, by decide +kernel, by decide +kernel⟩
theorem ok_parts_of (T : Txt mg) (D : At K mg "parts_of" s_p_parts_of ["tree"]) : Cl P w K mg base 1 "parts_of" (spParts K) := by
  refine cl_of D sc_p_parts_of (fun vs H Q E h => ?_) fun f cdv A outer s H vs Q E hr h => ?_
  · obtain ⟨v, h, ds, rfl, _⟩ := h
    rfl
  · obtain ⟨v, h, ds, rfl, hd, o, fl, hlen, k⟩ := h
    obtain ⟨a, its, rfl, hs, hx⟩ := view hd
    refine ⟨_, (pss_cons (ps_set (i := 1) sc_p_parts_of.nd rfl (Or.inl rfl) (pe_ix ix_tup (pv 0) pe_int (fun _ _ => rfl)))
      (pss_cons (ps_if (pt_inW (pv 1) (.cons (.cons (.cons (.cons (.cons .nil))))) (show 5 ≤ sizeLine by decide) (by rfl))
        (pss_one (ps_ret (pe_tup (pa_cons (pe_ix ix_tup (pv 0) pe_int (fun _ _ => rfl)) pa_nil))))
        pss_nil)
      (pss_cons (ps_if (pt_inW (pv 1) (.cons (.cons .nil)) (show 2 ≤ sizeLine by decide) (by rfl))
        (pss_one (ps_ret (pe_op op_catA (pe_tupleOf (by rfl) T.tuple (pe_lc (own := [("_", 2), ("side", 3)]) (g := gTup K 2 (gCons (gName 2) (gCons (gName 3) gNil))) rfl sc_p_parts_of.nd (pi_tup (pe_ix ix_tup (pv 0) pe_int (fun _ _ => rfl))) (blkOk_by (N := N_p_parts_of) (sc := defScope s_p_parts_of) (by decide +kernel))
      (fun _ _ _ _ _ => (pg_tup rfl (pgs_cons (pg_name (i := 2) sc_p_parts_of.nd rfl (Or.inl rfl)) (pgs_cons (pg_name (i := 3) sc_p_parts_of.nd rfl (Or.inl rfl)) pgs_nil))))
      (fun _ _ _ _ _ => pts_nil)
      (fun _ _ _ _ _ => (pv 3)))) (pe_tup (pa_cons (pe_ix ix_tup (pv 0) pe_int (fun _ _ => rfl)) pa_nil)))))
        pss_nil)
      (pss_cons (ps_if (pt_cmpR op_eq (pv 1) pe_str (nomark _))
        (pss_one (ps_ret (pe_tupleOf (by rfl) T.tuple (pe_ix ix_tup (pv 0) pe_int (fun _ _ => rfl)))))
        pss_nil)
      (pss_cons (ps_if (pt_cmpR op_eq (pv 1) pe_str (nomark _))
        (pss_one (ps_ret (pe_op op_catA (pe_tup (pa_cons (pe_ix ix_tup (pv 0) pe_int (fun _ _ => rfl)) pa_nil)) (pe_tupleOf (by rfl) T.tuple (pe_ix ix_tup (pv 0) pe_int (fun _ _ => rfl))))))
        pss_nil)
      (pss_cons (ps_if (pt_cmpR op_eq (pv 1) pe_str (nomark _))
        (pss_one (ps_ret (pe_tupleOf (by rfl) T.tuple (pe_ix ix_tup (pv 0) pe_int (fun _ _ => rfl)))))
        pss_nil)
      (pss_cons (ps_if (pt_inW (pv 1) (.cons (.cons (.cons (.cons .nil)))) (show 4 ≤ sizeLine by decide) (by rfl))
        (pss_one (ps_ret (pe_tupleOf (by rfl) T.tuple (pe_slice sl_tupA (pv 0) (po_some pe_int) po_none))))
        pss_nil)
      (pss_one (ps_ret (pe_tup pa_nil)))))))))), ?_⟩
    have hhd := hx.head
    refine ⟨_, rfl, a, its, _, _, rfl, rfl, hs, hhd, ?_⟩
    refine ⟨_, rfl, rfl, fun H1 s1 => ?_⟩
    rw [in_F o]
    cases eF : kF h with
    | true =>
      refine iteT ?_
      have hx1 := hx.same s1
      have hs1 := sqt_same s1 hs
      obtain ⟨v2, d, rfl, e2, hv2⟩ : ∃ v2 d, ds = [d] ∧ atI its 2 = some v2 ∧ Dp K H1 v2 d := by
        cases h with
        | fn xs =>
          obtain ⟨d, rfl⟩ := one_of o.1
          obtain ⟨q, vs, rfl, _, hv⟩ := hx1
          obtain ⟨v, rfl, hv'⟩ := dpAll_one hv
          exact ⟨v, d, rfl, atI_nat (j := 2) rfl, hv'⟩
        | one w x =>
          obtain ⟨d, rfl⟩ := one_of o.1
          obtain ⟨vs, rfl, hv⟩ := hx1
          obtain ⟨v, rfl, hv'⟩ := dpAll_one hv
          exact ⟨v, d, rfl, atI_nat (j := 2) rfl, hv'⟩
        | _ => cases eF
      refine ⟨_, rfl, a, _, _, _, rfl, rfl, hs1, e2, by show 1 ≤ sizeLine; decide, fun q hq => ?_⟩
      exact k q _ _ (s1.trans (same_new hq)) (.inl (.inl upd_same)) (.cons (dp_same (same_new hq) _ _ hv2) .nil)
    | false =>
      refine iteF ?_
      refine ⟨_, rfl, rfl, fun H2 s2 => ?_⟩
      have S2 := s1.trans s2
      rw [in_B o]
      cases eB : kB h with
      | true =>
        refine iteT ?_
        have hx2 := hx.same S2
        have hs2 := sqt_same S2 hs
        cases h with
        | bind w xs =>
          obtain ⟨q, rows, vs, rfl, hq, hrows, hv⟩ := hx2
          have hdl : ds.length = xs.length + 1 := o.1
          have hrl : rows.length = xs.length := by
            have := DpAll.len hrows
            rw [List.length_map, List.length_zip] at this
            omega
          refine ⟨_, rfl, a, _, _, _, rfl, rfl, hs2, atI_nat (j := 1) rfl, q, rfl, ⟨_, hq⟩, fun L hL => ?_⟩
          refine lc_data (K := K) (walk_tup (xs := rows)) (fun i => ((ds.take xs.length)[i]?).map id) hL (by omega) (fun H' s => sqt_same s hq) (fun i _ d e => ?_) ?_ ?_
          · obtain ⟨d', e', rfl⟩ := Option.map_eq_some_iff.mp e
            exact flatDs_all fl _ (List.mem_of_mem_take (List.mem_of_getElem? e'))
          · rintro i x H3 H4 hi s3 ⟨rfl, e2⟩ Q1 Q0 q1 q0
            obtain ⟨d, g1, g2⟩ := DpAll.atV hrows e2
            obtain ⟨p, ep, rfl⟩ := map_at g1
            obtain ⟨r, its3, rfl, hr3, hi3⟩ := dp_tup (dp_same s3 _ _ g2)
            cases hi3 with
            | cons h1 h2 =>
              obtain ⟨v, rfl, h3⟩ := dpAll_one h2
              refine ⟨r, _, rfl, hr3, rfl, _, _, rfl, _, _, rfl, rfl, rfl, ?_⟩
              refine ⟨_, rfl, q1 _ _ p.2 ?_ (Same.refl _) h3⟩
              have := List.getElem?_zip_eq_some.mp ep
              rw [List.getElem?_take_of_lt (by omega), this.2]
              rfl
          · intro H3 acc s3 hacc ha3
            rw [show rows.length = (ds.take xs.length).length by rw [List.length_take]; omega, range_map, List.map_id] at ha3
            refine .inl ⟨L, _, rfl, .inl (.inl hacc), fun t3 ht3 => ?_⟩
            have s4 := same_new (o := .tup acc) ht3
            obtain ⟨dl, edl⟩ := one_of (show (ds.drop xs.length).length = 1 by rw [List.length_drop]; omega)
            rw [edl] at hv
            obtain ⟨vl, rfl, hvl⟩ := dpAll_one hv
            have s34 := s3.trans s4
            refine ⟨_, rfl, a, _, _, _, rfl, rfl, sqt_same s34 hs2, atI_nat (j := 2) rfl, by show 1 ≤ sizeLine; decide, fun t5 ht5 => ?_⟩
            have s5 := same_new (o := .tup [vl]) ht5
            have hl3 := DpAll.len ha3
            rw [List.length_take] at hl3
            refine cat_any (sqt_same s5 (.inl (.inl upd_same))) (.inl (.inl upd_same)) (Nat.le_trans (show acc.length + 1 ≤ 200 by omega) (by decide)) fun t6 H6 s6 ht6 => ?_
            refine k t6 _ H6 ((S2.trans s34).trans (s5.trans s6)) ht6 ?_
            have h7 : DpAll K H6 (acc ++ [vl]) (ds.take xs.length ++ [dl]) := DpAll.app (dps_same (s4.trans (s5.trans s6)) _ _ ha3) (.cons (dp_same (s34.trans (s5.trans s6)) _ _ hvl) .nil)
            rw [← edl, List.take_append_drop] at h7
            exact h7
        | _ => cases eB
      | false =>
        refine iteF ?_
        refine ⟨_, rfl, rfl, _, rfl, ?_⟩
        rw [eq_do o]
        cases eD : isDo h with
        | true =>
          refine iteT ?_
          have hx2 := hx.same S2
          cases h with
          | doo =>
            obtain ⟨q, vs, rfl, hq, hv⟩ := hx2
            refine ⟨_, rfl, a, _, _, _, rfl, rfl, sqt_same S2 hs, atI_nat (j := 1) rfl, .inr ⟨q, _, rfl, hq, ?_⟩⟩
            exact k q vs _ S2 hq hv
          | _ => cases eD
        | false =>
          refine iteF ?_
          refine ⟨_, rfl, rfl, _, rfl, ?_⟩
          rw [eq_call o]
          cases eC : isCall h with
          | true =>
            refine iteT ?_
            have hx2 := hx.same S2
            cases h with
            | call =>
              obtain ⟨q, us, vs, rfl, hu, hq, hv⟩ := hx2
              have hdl : 1 ≤ ds.length := o
              obtain ⟨d0, e0⟩ := one_of (show (ds.take 1).length = 1 by rw [List.length_take]; omega)
              rw [e0] at hu
              obtain ⟨u0, rfl, hu0⟩ := dpAll_one hu
              refine ⟨_, rfl, a, _, _, _, rfl, rfl, sqt_same S2 hs, atI_nat (j := 1) rfl, by show 1 ≤ sizeLine; decide, fun t3 ht3 => ?_⟩
              have s3 := same_new (o := .tup [u0]) ht3
              refine ⟨_, rfl, a, _, _, _, rfl, rfl, sqt_same (S2.trans s3) hs, atI_nat (j := 2) rfl, .inr ⟨q, _, rfl, sqt_same s3 hq, ?_⟩⟩
              have hvl := DpAll.len hv
              rw [List.length_drop] at hvl
              refine cat_any (.inl (.inl upd_same)) (sqt_same s3 hq) (Nat.le_trans (show 1 + vs.length ≤ 200 by omega) (by decide)) fun t4 H4 s4 ht4 => ?_
              refine k t4 _ H4 (S2.trans (s3.trans s4)) ht4 ?_
              have h7 : DpAll K H4 ([u0] ++ vs) ([d0] ++ ds.drop 1) := DpAll.app (.cons (dp_same (s3.trans s4) _ _ hu0) .nil) (dps_same (s3.trans s4) _ _ hv)
              rw [← e0, List.take_append_drop] at h7
              exact h7
            | _ => cases eC
          | false =>
            refine iteF ?_
            refine ⟨_, rfl, rfl, _, rfl, ?_⟩
            rw [eq_op o]
            cases eO : isOp h with
            | true =>
              refine iteT ?_
              have hx2 := hx.same S2
              cases h with
              | op o' =>
                obtain ⟨q, vs, rfl, hq, hv⟩ := hx2
                refine ⟨_, rfl, a, _, _, _, rfl, rfl, sqt_same S2 hs, atI_nat (j := 2) rfl, .inr ⟨q, _, rfl, hq, ?_⟩⟩
                exact k q vs _ S2 hq hv
              | _ => cases eO
            | false =>
              refine iteF ?_
              refine ⟨_, rfl, rfl, fun H3 s3 => ?_⟩
              have S3 := S2.trans s3
              rw [in_P o]
              cases eP : kP h with
              | true =>
                refine iteT ?_
                have hx3 := hx.same S3
                cases h with
                | plain w =>
                  obtain ⟨vs, rfl, hv⟩ := hx3
                  refine ⟨_, rfl, 1, rfl, ?_⟩
                  refine sl_from (k := 1) (sqt_same S3 hs) (by rw [List.length_cons]; omega) fun t4 H4 s4 ht4 => ?_
                  refine .inr ⟨t4, _, rfl, ht4, ?_⟩
                  exact k t4 vs _ (S3.trans s4) ht4 (dps_same s4 _ _ hv)
                | _ => cases eP
              | false =>
                refine iteF ?_
                refine ⟨by show 0 ≤ sizeLine; decide, fun t4 ht4 => ?_⟩
                have e0 : ds = [] := by
                  cases h with
                  | num i => exact List.length_eq_zero_iff.mp o
                  | name i => exact List.length_eq_zero_iff.mp o.1
                  | lit i => exact List.length_eq_zero_iff.mp o.1
                  | one _ _ => cases eF
                  | fn _ => cases eF
                  | bind _ _ => cases eB
                  | doo => cases eD
                  | call => cases eC
                  | op _ => cases eO
                  | plain _ => cases eP
                subst e0
                exact k t4 [] _ (S3.trans (same_new ht4)) (.inl (.inl upd_same)) .nil
end
end K26

namespace K26
open PySem L2 Cm
/-- the parts of a form, as a new list -/
def spPartsL (K : PySem.W.Frag) : Sp := fun vs H Q _ => ∃ (v : V) (h : Hd) (ds : List PyData), vs = [v] ∧ Dp K H v (encH h ds) ∧ hok h ds.length ∧ flatDs ds = true ∧ ds.length ≤ 100 ∧
  ∀ (l : Addr) (us : List V) (H' : Hp), Same H H' → H l = none → H' l = some (.lst us) → DpAll K H' us ds → Q (.ref l) H'
section
variable {P : Program} {w : World} {K : PySem.W.Frag} {mg : Str → Option Value} {base : Heap}
abbrev s_l_parts : Stmt := top 21
abbrev N_l_parts : List Str := ["_law_tree", "_law_word", "_law_pair"]
theorem sc_l_parts : FnScope N_l_parts ["_law_tree"] (defScope s_l_parts) := ⟨rfl, rfl, rfl, by decide +kernel, rfl, by decide +kernel, by decide +kernel⟩
theorem ok_l_parts (T : Txt mg) (D : At K mg "_law_parts" s_l_parts ["_law_tree"]) : Cl P w K mg base 1 "_law_parts" (spPartsL K) := by
  refine cl_of D sc_l_parts (fun vs H Q E h => ?_) fun f cdv A outer s H vs Q E hr h => ?_
  · obtain ⟨v, h, ds, rfl, _⟩ := h
    rfl
  · obtain ⟨v, h, ds, rfl, hd, o, fl, hlen, k⟩ := h
    obtain ⟨a, its, rfl, hs, hx⟩ := view hd
    refine ⟨_, (pss_cons (ps_set (i := 1) sc_l_parts.nd rfl (Or.inl rfl) (pe_ix ix_tup (pv 0) pe_int (fun _ _ => rfl)))
      (pss_cons (ps_if (pt_inW (pv 1) (.cons (.cons (.cons (.cons (.cons (.cons .nil)))))) (show 6 ≤ sizeLine by decide) (by rfl))
        (pss_one (ps_ret (pe_lst pa_nil)))
        pss_nil)
      (pss_cons (ps_if (pt_inW (pv 1) (.cons (.cons (.cons (.cons (.cons .nil))))) (show 5 ≤ sizeLine by decide) (by rfl))
        (pss_one (ps_ret (pe_lst (pa_cons (pe_ix ix_tup (pv 0) pe_int (fun _ _ => rfl)) pa_nil))))
        pss_nil)
      (pss_cons (ps_if (pt_inW (pv 1) (.cons (.cons .nil)) (show 2 ≤ sizeLine by decide) (by rfl))
        (pss_one (ps_ret (pe_op op_cat (pe_lc (own := [("_law_pair", 2)]) rfl sc_l_parts.nd (pi_tup (pe_ix ix_tup (pv 0) pe_int (fun _ _ => rfl))) (blkOk_by (N := N_l_parts) (sc := defScope s_l_parts) (by decide +kernel))
      (fun _ _ _ _ _ => (pg_name (i := 2) sc_l_parts.nd rfl (Or.inl rfl)))
      (fun _ _ _ _ _ => pts_nil)
      (fun _ _ _ _ _ => (pe_ix (kx_tup (K := K)) (pv 2) pe_int (fun _ _ => rfl)))) (pe_lst (pa_cons (pe_ix ix_tup (pv 0) pe_int (fun _ _ => rfl)) pa_nil)))))
        pss_nil)
      (pss_cons (ps_if (pt_cmpR op_eq (pv 1) pe_str (nomark _))
        (pss_one (ps_ret (pe_callTy call_list_of (by rfl) T.list (by decide +kernel) (pa_cons (pe_ix ix_tup (pv 0) pe_int (fun _ _ => rfl)) pa_nil))))
        pss_nil)
      (pss_cons (ps_if (pt_cmpR op_eq (pv 1) pe_str (nomark _))
        (pss_one (ps_ret (pe_op op_cat (pe_lst (pa_cons (pe_ix ix_tup (pv 0) pe_int (fun _ _ => rfl)) pa_nil)) (pe_callTy call_list_of (by rfl) T.list (by decide +kernel) (pa_cons (pe_ix ix_tup (pv 0) pe_int (fun _ _ => rfl)) pa_nil)))))
        pss_nil)
      (pss_cons (ps_if (pt_cmpR op_eq (pv 1) pe_str (nomark _))
        (pss_one (ps_ret (pe_callTy call_list_of (by rfl) T.list (by decide +kernel) (pa_cons (pe_ix ix_tup (pv 0) pe_int (fun _ _ => rfl)) pa_nil))))
        pss_nil)
      (pss_one (ps_ret (pe_callTy call_list_of (by rfl) T.list (by decide +kernel) (pa_cons (pe_slice sl_tupA (pv 0) (po_some pe_int) po_none) pa_nil))))))))))), ?_⟩
    have hhd := hx.head
    refine ⟨_, rfl, a, its, _, _, rfl, rfl, hs, hhd, ?_⟩
    refine ⟨_, rfl, rfl, fun H0 s0 => ?_⟩
    rw [in_L o]
    cases eL : kL h with
    | true =>
      refine iteT ⟨by show 0 ≤ sizeLine; decide, fun l hl => ?_⟩
      have e0 : ds = [] := by
        cases h with
        | num i => exact List.length_eq_zero_iff.mp o
        | name i => exact List.length_eq_zero_iff.mp o.1
        | lit i => exact List.length_eq_zero_iff.mp o.1
        | _ => cases eL
      subst e0
      exact k l [] _ (s0.trans (same_new hl)) (free_of s0 hl) upd_same .nil
    | false =>
    refine iteF ?_
    refine ⟨_, rfl, rfl, fun H1 s01 => ?_⟩
    have s1 := s0.trans s01
    rw [in_F o]
    cases eF : kF h with
    | true =>
      refine iteT ?_
      have hx1 := hx.same s1
      have hs1 := sqt_same s1 hs
      obtain ⟨v2, d, rfl, e2, hv2⟩ : ∃ v2 d, ds = [d] ∧ atI its 2 = some v2 ∧ Dp K H1 v2 d := by
        cases h with
        | fn xs =>
          obtain ⟨d, rfl⟩ := one_of o.1
          obtain ⟨q, vs, rfl, _, hv⟩ := hx1
          obtain ⟨v, rfl, hv'⟩ := dpAll_one hv
          exact ⟨v, d, rfl, atI_nat (j := 2) rfl, hv'⟩
        | one w x =>
          obtain ⟨d, rfl⟩ := one_of o.1
          obtain ⟨vs, rfl, hv⟩ := hx1
          obtain ⟨v, rfl, hv'⟩ := dpAll_one hv
          exact ⟨v, d, rfl, atI_nat (j := 2) rfl, hv'⟩
        | _ => cases eF
      refine ⟨_, rfl, a, _, _, _, rfl, rfl, hs1, e2, by show 1 ≤ sizeLine; decide, fun q hq => ?_⟩
      exact k q _ _ (s1.trans (same_new hq)) (free_of s1 hq) upd_same (.cons (dp_same (same_new hq) _ _ hv2) .nil)
    | false =>
      refine iteF ?_
      refine ⟨_, rfl, rfl, fun H2 s2 => ?_⟩
      have S2 := s1.trans s2
      rw [in_B o]
      cases eB : kB h with
      | true =>
        refine iteT ?_
        have hx2 := hx.same S2
        have hs2 := sqt_same S2 hs
        cases h with
        | bind w xs =>
          obtain ⟨q, rows, vs, rfl, hq, hrows, hv⟩ := hx2
          have hdl : ds.length = xs.length + 1 := o.1
          have hrl : rows.length = xs.length := by
            have := DpAll.len hrows
            rw [List.length_map, List.length_zip] at this
            omega
          refine ⟨_, rfl, a, _, _, _, rfl, rfl, hs2, atI_nat (j := 1) rfl, q, rfl, ⟨_, hq⟩, fun L hL => ?_⟩
          refine lc_data (K := K) (walk_tup (xs := rows)) (fun i => ((ds.take xs.length)[i]?).map id) hL (by omega) (fun H' s => sqt_same s hq) (fun i _ d e => ?_) ?_ ?_
          · obtain ⟨d', e', rfl⟩ := Option.map_eq_some_iff.mp e
            exact flatDs_all fl _ (List.mem_of_mem_take (List.mem_of_getElem? e'))
          · rintro i x H3 H4 hi s3 ⟨rfl, e2⟩ Q1 Q0 q1 q0
            obtain ⟨d, g1, g2⟩ := DpAll.atV hrows e2
            obtain ⟨p, ep, rfl⟩ := map_at g1
            obtain ⟨r, its3, rfl, hr3, hi3⟩ := dp_tup (dp_same s3 _ _ g2)
            cases hi3 with
            | cons h1 h2 =>
              obtain ⟨v, rfl, h3⟩ := dpAll_one h2
              refine ⟨rfl, ?_⟩
              refine ⟨_, rfl, r, _, _, _, rfl, rfl, hr3, atI_nat (j := 1) rfl, q1 _ _ p.2 ?_ (Same.refl _) h3⟩
              have := List.getElem?_zip_eq_some.mp ep
              rw [List.getElem?_take_of_lt (by omega), this.2]
              rfl
          · intro H3 acc s3 hacc ha3
            rw [show rows.length = (ds.take xs.length).length by rw [List.length_take]; omega, range_map, List.map_id] at ha3
            obtain ⟨dl, edl⟩ := one_of (show (ds.drop xs.length).length = 1 by rw [List.length_drop]; omega)
            rw [edl] at hv
            obtain ⟨vl, rfl, hvl⟩ := dpAll_one hv
            refine ⟨_, rfl, a, _, _, _, rfl, rfl, sqt_same s3 hs2, atI_nat (j := 2) rfl, by show 1 ≤ sizeLine; decide, fun t5 ht5 => ?_⟩
            have s5 := same_new (o := .lst [vl]) ht5
            have hl3 := DpAll.len ha3
            rw [List.length_take] at hl3
            refine ⟨L, t5, acc, [vl], rfl, rfl, s5 _ _ hacc, upd_same, Nat.le_trans (show acc.length + 1 ≤ 200 by omega) (by decide), fun t6 ht6 => ?_⟩
            have s6 := same_new (o := .lst (acc ++ [vl])) ht6
            refine k t6 _ _ ((S2.trans s3).trans (s5.trans s6)) (free_of ((S2.trans s3).trans s5) ht6) upd_same ?_
            have h7 : DpAll K _ (acc ++ [vl]) (ds.take xs.length ++ [dl]) := DpAll.app (dps_same (s5.trans s6) _ _ ha3) (.cons (dp_same (s3.trans (s5.trans s6)) _ _ hvl) .nil)
            rw [← edl, List.take_append_drop] at h7
            exact h7
        | _ => cases eB
      | false =>
        refine iteF ?_
        refine ⟨_, rfl, rfl, _, rfl, ?_⟩
        rw [eq_do o]
        cases eD : isDo h with
        | true =>
          refine iteT ?_
          have hx2 := hx.same S2
          cases h with
          | doo =>
            obtain ⟨q, vs, rfl, hq, hv⟩ := hx2
            refine ⟨_, rfl, a, _, _, _, rfl, rfl, sqt_same S2 hs, atI_nat (j := 1) rfl, q, _, rfl, .inr hq, fun l hl => ?_⟩
            exact k l vs _ (S2.trans (same_new hl)) (free_of S2 hl) upd_same (dps_same (same_new hl) _ _ hv)
          | _ => cases eD
        | false =>
          refine iteF ?_
          refine ⟨_, rfl, rfl, _, rfl, ?_⟩
          rw [eq_call o]
          cases eC : isCall h with
          | true =>
            refine iteT ?_
            have hx2 := hx.same S2
            cases h with
            | call =>
              obtain ⟨q, us, vs, rfl, hu, hq, hv⟩ := hx2
              have hdl : 1 ≤ ds.length := o
              obtain ⟨d0, e0⟩ := one_of (show (ds.take 1).length = 1 by rw [List.length_take]; omega)
              rw [e0] at hu
              obtain ⟨u0, rfl, hu0⟩ := dpAll_one hu
              refine ⟨_, rfl, a, _, _, _, rfl, rfl, sqt_same S2 hs, atI_nat (j := 1) rfl, by show 1 ≤ sizeLine; decide, fun t3 ht3 => ?_⟩
              have s3 := same_new (o := .lst [u0]) ht3
              refine ⟨_, rfl, a, _, _, _, rfl, rfl, sqt_same (S2.trans s3) hs, atI_nat (j := 2) rfl, q, _, rfl, .inr (sqt_same s3 hq), fun t4 ht4 => ?_⟩
              have s4 := same_new (o := .lst vs) ht4
              have hvl := DpAll.len hv
              rw [List.length_drop] at hvl
              refine ⟨t3, t4, [u0], vs, rfl, rfl, s4 _ _ upd_same, upd_same, Nat.le_trans (show 1 + vs.length ≤ 200 by omega) (by decide), fun t5 ht5 => ?_⟩
              have s5 := same_new (o := .lst ([u0] ++ vs)) ht5
              have s35 := s3.trans (s4.trans s5)
              refine k t5 _ _ (S2.trans s35) (free_of (S2.trans (s3.trans s4)) ht5) upd_same ?_
              have h7 : DpAll K _ ([u0] ++ vs) ([d0] ++ ds.drop 1) := DpAll.app (.cons (dp_same s35 _ _ hu0) .nil) (dps_same s35 _ _ hv)
              rw [← e0, List.take_append_drop] at h7
              exact h7
            | _ => cases eC
          | false =>
            refine iteF ?_
            refine ⟨_, rfl, rfl, _, rfl, ?_⟩
            rw [eq_op o]
            cases eO : isOp h with
            | true =>
              refine iteT ?_
              have hx2 := hx.same S2
              cases h with
              | op o' =>
                obtain ⟨q, vs, rfl, hq, hv⟩ := hx2
                refine ⟨_, rfl, a, _, _, _, rfl, rfl, sqt_same S2 hs, atI_nat (j := 2) rfl, q, _, rfl, .inr hq, fun l hl => ?_⟩
                exact k l vs _ (S2.trans (same_new hl)) (free_of S2 hl) upd_same (dps_same (same_new hl) _ _ hv)
              | _ => cases eO
            | false =>
              refine iteF ?_
              have hx3 := hx.same S2
              cases h with
              | plain w =>
                obtain ⟨vs, rfl, hv⟩ := hx3
                refine ⟨_, rfl, 1, rfl, ?_⟩
                refine sl_from (k := 1) (sqt_same S2 hs) (by rw [List.length_cons]; omega) fun t4 H4 s4 ht4 => ?_
                refine ⟨t4, _, rfl, .inr ht4, fun l hl => ?_⟩
                exact k l vs _ ((S2.trans s4).trans (same_new hl)) (free_of (S2.trans s4) hl) upd_same (dps_same (s4.trans (same_new hl)) _ _ hv)
              | num i => cases eL
              | name i => cases eL
              | lit i => cases eL
              | one _ _ => cases eF
              | fn _ => cases eF
              | bind _ _ => cases eB
              | doo => cases eD
              | call => cases eC
              | op _ => cases eO
end
end K26

namespace K26
open PySem L2 Cm
/-- a form with other parts -/
def spWith (K : PySem.W.Frag) : Sp := fun vs H Q _ => ∃ (v : V) (b : Addr) (h : Hd) (ds0 ds : List PyData) (us : List V), vs = [v, .ref b] ∧ Dp K H v (encH h ds0) ∧ hok h ds0.length ∧ ds.length = ds0.length ∧ ds.length ≤ 100 ∧ flatDs ds = true ∧
  (SqL K H b us ∨ SqT K H b us) ∧ DpAll K H us ds ∧ ∀ (r : V) (H' : Hp), Same H H' → Dp K H' r (encH h ds) → Q r H'
theorem zip_rows {xs : List Str} {ds : List PyData} (hl : ds.length = xs.length + 1) {i : Nat} {x : Str} {d : PyData} (e1 : xs[i]? = some x) (e2 : ds[i]? = some d) : ((xs.zip ds)[i]?).map rowD = some (rowD (x, d)) := by
  rw [(List.getElem?_zip_eq_some (z := (x, d))).mpr ⟨e1, e2⟩]
  rfl
section
variable {P : Program} {w : World} {K : PySem.W.Frag} {mg : Str → Option Value} {base : Heap}
abbrev s_p_with_parts : Stmt := top 5
abbrev N_p_with_parts : List Str := ["tree", "parts", "word", "rows", "row", "side"]
theorem sc_p_with_parts : FnScope N_p_with_parts ["tree", "parts"] (defScope s_p_with_parts) := ⟨rfl, rfl, rfl, by decide +kernel, rfl, by decide +kernel, by decide +kernel⟩
theorem ok_with_parts (T : Txt mg) (D : At K mg "with_parts" s_p_with_parts ["tree", "parts"]) : Cl P w K mg base 1 "with_parts" (spWith K) := by
  refine cl_of D sc_p_with_parts (fun vs H Q E h => ?_) fun f cdv A outer s H vs Q E hr h => ?_
  · obtain ⟨v, b, h, ds0, ds, us, rfl, _⟩ := h
    rfl
  · obtain ⟨v, b, h, ds0, ds, us, rfl, hd, o, hln, hlen, fl, hb, hu, k⟩ := h
    obtain ⟨a, its, rfl, hs, hx⟩ := view hd
    refine ⟨_, (pss_cons (ps_set (i := 2) sc_p_with_parts.nd rfl (Or.inl rfl) (pe_ix ix_tup (pv 0) pe_int (fun _ _ => rfl)))
      (pss_mid (ps_set (i := 1) sc_p_with_parts.nd rfl (Or.inl rfl) (pe_tupleOf (by rfl) T.tuple (pv 1)))
      (pss_cons (ps_if (pt_inW (pv 2) (.cons (.cons (.cons (.cons (.cons .nil))))) (show 5 ≤ sizeLine by decide) (by rfl))
        (pss_one (ps_ret (pe_tup (pa_cons (pv 2) (pa_cons (pe_ix ix_tup (pv 0) pe_int (fun _ _ => rfl)) (pa_cons (pe_ix ix_tup (pv 1) pe_int (fun _ _ => rfl)) pa_nil))))))
        pss_nil)
      (pss_cons (ps_if (pt_inW (pv 2) (.cons (.cons .nil)) (show 2 ≤ sizeLine by decide) (by rfl))
        (pss_cons (ps_set (i := 3) sc_p_with_parts.nd rfl (Or.inl rfl) (pe_tupleOf (by rfl) T.tuple (pe_lc (own := [("row", 4), ("side", 5)]) (g := gTup K 2 (gCons (gName 4) (gCons (gName 5) gNil))) rfl sc_p_with_parts.nd (RZ.pi_zipA (by rfl) T.zip (pa_cons (pe_ix ix_tup (pv 0) pe_int (fun _ _ => rfl)) (pa_cons (pv 1) pa_nil))) (blkOk_by (N := N_p_with_parts) (sc := defScope s_p_with_parts) (by decide +kernel))
      (fun _ _ _ _ _ => (pg_tup rfl (pgs_cons (pg_name (i := 4) sc_p_with_parts.nd rfl (Or.inl rfl)) (pgs_cons (pg_name (i := 5) sc_p_with_parts.nd rfl (Or.inl rfl)) pgs_nil))))
      (fun _ _ _ _ _ => pts_nil)
      (fun _ _ _ _ _ => (pe_tup (pa_cons (pe_ix (kx_tup (K := K)) (pv 4) pe_int (fun _ _ => rfl)) (pa_cons (pv 5) pa_nil)))))))
        (pss_one (ps_ret (pe_tup (pa_cons (pv 2) (pa_cons (pv 3) (pa_cons (pe_ix ix_tup (pv 1) (pe_un un_neg pe_int) (fun _ _ => rfl)) pa_nil)))))))
        pss_nil)
      (pss_cons (ps_if (pt_cmpR op_eq (pv 2) pe_str (nomark _))
        (pss_one (ps_ret (pe_tup (pa_cons (pv 2) (pa_cons (pv 1) pa_nil)))))
        pss_nil)
      (pss_cons (ps_if (pt_cmpR op_eq (pv 2) pe_str (nomark _))
        (pss_one (ps_ret (pe_tup (pa_cons (pv 2) (pa_cons (pe_ix ix_tup (pv 1) pe_int (fun _ _ => rfl)) (pa_cons (pe_slice sl_tupA (pv 1) (po_some pe_int) po_none) pa_nil))))))
        pss_nil)
      (pss_cons (ps_if (pt_cmpR op_eq (pv 2) pe_str (nomark _))
        (pss_one (ps_ret (pe_tup (pa_cons (pv 2) (pa_cons (pe_ix ix_tup (pv 0) pe_int (fun _ _ => rfl)) (pa_cons (pv 1) pa_nil))))))
        pss_nil)
      (pss_cons (ps_if (pt_inW (pv 2) (.cons (.cons (.cons (.cons .nil)))) (show 4 ≤ sizeLine by decide) (by rfl))
        (pss_one (ps_ret (pe_op op_catA (pe_tup (pa_cons (pv 2) pa_nil)) (pv 1))))
        pss_nil)
      (pss_one (ps_ret (pv 0))))))))))), ?_⟩
    have hhd := hx.head
    refine ⟨_, rfl, a, its, _, _, rfl, rfl, hs, hhd, ?_⟩
    refine ⟨fun σ' H' => ∃ b' : Addr, σ' = [some (.ref a), some (.ref b'), some (.str (wd h)), none, none, none] ∧ Same H H' ∧ SqT K H' b' us ∧ DpAll K H' us ds, ?_, ?_⟩
    · rcases hb with hb | hb
      · exact ⟨_, rfl, .inl ⟨b, _, rfl, hb, fun q hq => ⟨q, rfl, same_new hq, .inl (.inl upd_same), dps_same (same_new hq) _ _ hu⟩⟩⟩
      · exact ⟨_, rfl, .inr ⟨b, _, rfl, hb, ⟨b, rfl, Same.refl _, hb, hu⟩⟩⟩
    clear hb hu
    rintro σ' H0 ⟨b, rfl, s0, hb, hu⟩
    refine ⟨_, rfl, rfl, fun H1 s01 => ?_⟩
    have s1 := s0.trans s01
    rw [in_F o]
    cases eF : kF h with
    | true =>
      refine iteT ?_
      have hx1 := hx.same s1
      have hs1 := sqt_same s1 hs
      have hb1 := sqt_same s01 hb
      have hu1 := dps_same s01 _ _ hu
      cases h with
      | fn xs =>
        obtain ⟨d, rfl⟩ := one_of (show ds.length = 1 by rw [hln]; exact o.1)
        obtain ⟨q, vs, rfl, hq, hv⟩ := hx1
        obtain ⟨v, rfl, hv'⟩ := dpAll_one hu1
        refine ⟨_, rfl, _, rfl, a, _, _, _, rfl, rfl, hs1, atI_nat (j := 1) rfl, _, rfl, b, _, _, _, rfl, rfl, hb1, atI_nat (j := 0) rfl, by show 3 ≤ sizeLine; decide, fun t ht => ?_⟩
        have s2 := same_new (o := .tup [.str (wd (.fn xs)), .ref q, v]) ht
        exact k _ _ (s1.trans s2) (unview (h := .fn xs) (.inl (.inl upd_same)) ⟨q, [v], rfl, sqt_same s2 hq, dps_same s2 _ _ hu1⟩)
      | one w x =>
        obtain ⟨d, rfl⟩ := one_of (show ds.length = 1 by rw [hln]; exact o.1)
        obtain ⟨vs, rfl, hv⟩ := hx1
        obtain ⟨v, rfl, hv'⟩ := dpAll_one hu1
        refine ⟨_, rfl, _, rfl, a, _, _, _, rfl, rfl, hs1, atI_nat (j := 1) rfl, _, rfl, b, _, _, _, rfl, rfl, hb1, atI_nat (j := 0) rfl, by show 3 ≤ sizeLine; decide, fun t ht => ?_⟩
        have s2 := same_new (o := .tup [.str (wd (.one w x)), .str x, v]) ht
        exact k _ _ (s1.trans s2) (unview (h := .one w x) (.inl (.inl upd_same)) ⟨[v], rfl, dps_same s2 _ _ hu1⟩)
      | _ => cases eF
    | false =>
      refine iteF ?_
      refine ⟨_, rfl, rfl, fun H2 s12 => ?_⟩
      have s02 := s01.trans s12
      have S2 := s1.trans s12
      have hb2 := sqt_same s02 hb
      have hu2 := dps_same s02 _ _ hu
      rw [in_B o]
      cases eB : kB h with
      | true =>
        refine iteT ?_
        have hx2 := hx.same S2
        have hs2 := sqt_same S2 hs
        cases h with
        | bind w xs =>
          obtain ⟨q, rows, vs, rfl, hq, hrows, hv⟩ := hx2
          have hdl0 : ds0.length = xs.length + 1 := o.1
          have hdl : ds.length = xs.length + 1 := by rw [hln]; exact hdl0
          have hrl : rows.length = xs.length := by
            have := DpAll.len hrows
            rw [List.length_map, List.length_zip] at this
            omega
          have hul := DpAll.len hu2
          refine ⟨_, rfl, a, _, _, _, rfl, rfl, hs2, atI_nat (j := 1) rfl, _, rfl, q, b, rows, us, rfl, .inr ⟨hq, hb2, fun L hL => ?_⟩⟩
          refine lc_data (K := K) (walk_zipT (xs := rows) (ys := us) (n := (xs.zip ds).length) (by rw [List.length_zip]; omega)) (fun i => ((xs.zip ds)[i]?).map rowD) hL (by rw [List.length_zip]; omega) (fun H' s => ⟨sqt_same s hq, sqt_same s hb2⟩) (fun i _ d e => ?_) ?_ ?_
          · obtain ⟨p, e', rfl⟩ := Option.map_eq_some_iff.mp e
            have := (List.getElem?_zip_eq_some.mp e').2
            have f2 := flatDs_all fl _ (List.mem_of_getElem? this)
            simp [rowD, flatD, flatDs, f2]
          · rintro i x H3 H4 hi s3 ⟨T1, x1, x2, rfl, hT, rfl, e1, e2⟩ Q1 Q0 q1 q0
            have sT := same_new (o := .tup [x1, x2]) hT
            obtain ⟨d, g1, g2⟩ := DpAll.atV hrows e1
            obtain ⟨p, ep, rfl⟩ := map_at g1
            obtain ⟨r, its3, rfl, hr3, hi3⟩ := dp_tup (dp_same (s3.trans sT) _ _ g2)
            obtain ⟨d2, g3, g4⟩ := DpAll.atV hu2 e2
            cases hi3 with
            | cons h1 h2 =>
              have e1s := dp_str h1
              subst e1s
              refine ⟨T1, _, rfl, .inl (.inl upd_same), rfl, _, _, rfl, _, _, rfl, rfl, rfl, ?_⟩
              refine ⟨_, rfl, r, _, _, _, rfl, rfl, hr3, atI_nat (j := 0) rfl, _, rfl, by show 2 ≤ sizeLine; decide, fun t ht => ?_⟩
              have s5 := same_new (o := .tup [.str p.1, x2]) ht
              refine q1 _ _ (rowD (p.1, d2)) (zip_rows hdl (List.getElem?_zip_eq_some.mp ep).1 g3) (sT.trans s5) ?_
              exact .tup (.inl (.inl upd_same)) (.cons (.str _) (.cons (dp_same (s3.trans (sT.trans s5)) _ _ g4) .nil))
          · intro H3 acc s3 hacc ha3
            rw [range_map] at ha3
            refine .inl ⟨L, _, rfl, .inl (.inl hacc), fun t3 ht3 => ?_⟩
            have s4 := same_new (o := .tup acc) ht3
            have s34 := s3.trans s4
            obtain ⟨ul, dl, eul, edl, hdl2⟩ : ∃ ul dl, us = us.take xs.length ++ [ul] ∧ ds.drop xs.length = [dl] ∧ Dp K H2 ul dl := by
              obtain ⟨dl, edl⟩ := one_of (show (ds.drop xs.length).length = 1 by rw [List.length_drop]; omega)
              have hud := DpAll.drop xs.length hu2
              rw [edl] at hud
              obtain ⟨ul, e, h⟩ := dpAll_one hud
              exact ⟨ul, dl, by rw [← e, List.take_append_drop], edl, h⟩
            refine ⟨_, rfl, _, rfl, _, rfl, _, rfl, b, _, _, _, rfl, rfl, sqt_same s34 hb2, by rw [eul]; exact atI_last _ _, by show 3 ≤ sizeLine; decide, fun t5 ht5 => ?_⟩
            have s5 := same_new (o := .tup [.str (wd (.bind w xs)), .ref t3, ul]) ht5
            refine k _ _ ((S2.trans s34).trans s5) (unview (h := .bind w xs) (.inl (.inl upd_same)) ⟨t3, acc, [ul], rfl, sqt_same s5 (.inl (.inl upd_same)), dps_same (s4.trans s5) _ _ ha3, ?_⟩)
            rw [edl]
            exact .cons (dp_same (s34.trans s5) _ _ hdl2) .nil
        | _ => cases eB
      | false =>
        refine iteF ?_
        refine ⟨_, rfl, rfl, _, rfl, ?_⟩
        rw [eq_do o]
        cases eD : isDo h with
        | true =>
          refine iteT ?_
          cases h with
          | doo =>
            refine ⟨_, rfl, _, rfl, by show 2 ≤ sizeLine; decide, fun t ht => ?_⟩
            have s3 := same_new (o := .tup [.str (wd .doo), .ref b]) ht
            exact k _ _ (S2.trans s3) (unview (h := .doo) (.inl (.inl upd_same)) ⟨b, us, rfl, sqt_same s3 hb2, dps_same s3 _ _ hu2⟩)
          | _ => cases eD
        | false =>
          refine iteF ?_
          refine ⟨_, rfl, rfl, _, rfl, ?_⟩
          rw [eq_call o]
          cases eC : isCall h with
          | true =>
            refine iteT ?_
            cases h with
            | call =>
              have hdl : 1 ≤ ds.length := by rw [hln]; exact o
              have hul := DpAll.len hu2
              obtain ⟨u0, ur, rfl⟩ : ∃ u0 ur, us = u0 :: ur := by
                cases us with
                | nil => simp at hul; omega
                | cons u0 ur => exact ⟨u0, ur, rfl⟩
              refine ⟨_, rfl, _, rfl, b, _, _, _, rfl, rfl, hb2, atI_nat (j := 0) rfl, _, rfl, 1, rfl, ?_⟩
              refine sl_from (k := 1) hb2 (by rw [List.length_cons]; omega) fun t3 H3 s3 ht3 => ⟨by show 3 ≤ sizeLine; decide, fun t ht => ?_⟩
              have s4 := same_new (o := .tup [.str (wd .call), u0, .ref t3]) ht
              exact k _ _ (S2.trans (s3.trans s4)) (unview (h := .call) (.inl (.inl upd_same)) ⟨t3, [u0], ur, rfl, DpAll.take 1 (dps_same (s3.trans s4) _ _ hu2), sqt_same s4 ht3, DpAll.drop 1 (dps_same (s3.trans s4) _ _ hu2)⟩)
            | _ => cases eC
          | false =>
            refine iteF ?_
            refine ⟨_, rfl, rfl, _, rfl, ?_⟩
            rw [eq_op o]
            cases eO : isOp h with
            | true =>
              refine iteT ?_
              have hx2 := hx.same S2
              cases h with
              | op o' =>
                obtain ⟨q, vs, rfl, hq, hv⟩ := hx2
                refine ⟨_, rfl, _, rfl, a, _, _, _, rfl, rfl, sqt_same S2 hs, atI_nat (j := 1) rfl, _, rfl, by show 3 ≤ sizeLine; decide, fun t ht => ?_⟩
                have s3 := same_new (o := .tup [.str (wd (.op o')), .str o', .ref b]) ht
                exact k _ _ (S2.trans s3) (unview (h := .op o') (.inl (.inl upd_same)) ⟨b, us, rfl, sqt_same s3 hb2, dps_same s3 _ _ hu2⟩)
              | _ => cases eO
            | false =>
              refine iteF ?_
              refine ⟨_, rfl, rfl, fun H3 s23 => ?_⟩
              have S3 := S2.trans s23
              have hb3 := sqt_same s23 hb2
              have hu3 := dps_same s23 _ _ hu2
              rw [in_P o]
              cases eP : kP h with
              | true =>
                refine iteT ?_
                cases h with
                | plain w =>
                  have hul := DpAll.len hu3
                  refine ⟨_, rfl, by show 1 ≤ sizeLine; decide, fun t4 ht4 => ?_⟩
                  have s4 := same_new (o := .tup [.str (wd (.plain w))]) ht4
                  refine ⟨_, rfl, ?_⟩
                  refine cat_any (.inl (.inl upd_same)) (sqt_same s4 hb3) (Nat.le_trans (show 1 + us.length ≤ 200 by omega) (by decide)) fun t5 H5 s5 ht5 => ?_
                  exact k _ _ (S3.trans (s4.trans s5)) (unview (h := .plain w) ht5 ⟨us, rfl, dps_same (s4.trans s5) _ _ hu3⟩)
                | _ => cases eP
              | false =>
                refine iteF ⟨_, rfl, ?_⟩
                have e0 : ds = ds0 := by
                  have e1 : ds0 = [] := by
                    cases h with
                    | num i => exact List.length_eq_zero_iff.mp o
                    | name i => exact List.length_eq_zero_iff.mp o.1
                    | lit i => exact List.length_eq_zero_iff.mp o.1
                    | one _ _ => cases eF
                    | fn _ => cases eF
                    | bind _ _ => cases eB
                    | doo => cases eD
                    | call => cases eC
                    | op _ => cases eO
                    | plain _ => cases eP
                  subst e1
                  exact List.length_eq_zero_iff.mp hln
                subst e0
                exact k _ _ S3 (dp_same S3 _ _ hd)
end
end K26

namespace K26
open PySem L2 Cm
/-- the part that a path leads to, or None -/
def spAt (K : PySem.W.Frag) : Sp := fun vs H Q _ => ∃ (v : V) (b : Addr) (t : Tr) (p : List Int), vs = [v, .ref b] ∧ Dp K H v t.enc ∧ t.ok ∧ (SqL K H b (p.map V.int) ∨ SqT K H b (p.map V.int)) ∧
  (∀ H', Same H H' → Tr.at p t = none → Q .non H') ∧ ∀ (r : V) (s : Tr) (H' : Hp), Same H H' → Tr.at p t = some s → Dp K H' r s.enc → Q r H'
/-- another part put at a path -/
def spPut (K : PySem.W.Frag) (n : Nat) : Sp := fun vs H Q _ => ∃ (v o : V) (b : Addr) (t u : Tr) (p : List Int), vs = [v, .ref b, o] ∧ Dp K H v t.enc ∧ t.ok ∧ Dp K H o u.enc ∧ p.length < n ∧ (SqL K H b (p.map V.int) ∨ SqT K H b (p.map V.int)) ∧ (∃ s, Tr.at p t = some s) ∧
  ∀ (r : V) (H' : Hp), Same H H' → Dp K H' r (Tr.put p t u).enc → Q r H'
theorem enc_mk (h : Hd) (ps : List Tr) : (Tr.mk h ps).enc = encH h (Tr.encL ps) := rfl
theorem ok_mk {h : Hd} {ps : List Tr} (o : (Tr.mk h ps).ok) : hok h ps.length ∧ ps.length ≤ 11 ∧ ∀ t ∈ ps, t.ok := by
  have o' : hok h ps.length ∧ ps.length ≤ 11 ∧ Tr.oks ps := o
  exact ⟨o'.1, o'.2.1, oks_iff.mp o'.2.2⟩
theorem encL_at {ps : List Tr} {i : Nat} {d : PyData} (h : (Tr.encL ps)[i]? = some d) : ∃ t, ps[i]? = some t ∧ d = t.enc := by
  rw [encL_map] at h
  exact map_at h
theorem encL_set (ps : List Tr) (i : Nat) (t : Tr) : Tr.encL (ps.set i t) = (Tr.encL ps).set i t.enc := by
  rw [encL_map, encL_map, List.map_set]
theorem ixn_at {n m : Nat} (h : m < n) : ixN n ((m : Nat) : Int) = some m := by
  unfold ixN
  have h1 : ((m : Nat) : Int) < (n : Int) := by omega
  simp [h1]
  try omega
theorem DpAll.set {K : PySem.W.Frag} {H : Hp} {v : V} {d : PyData} (h : Dp K H v d) : ∀ {vs : List V} {ds : List PyData} (i : Nat), DpAll K H vs ds → DpAll K H (vs.set i v) (ds.set i d)
  | _, _, _, .nil => .nil
  | _, _, 0, .cons _ b => .cons h b
  | _, _, i + 1, .cons a b => .cons a (DpAll.set h i b)
section
variable {P : Program} {w : World} {K : PySem.W.Frag} {mg : Str → Option Value} {base : Heap}
abbrev s_p_tree_at : Stmt := top 6
abbrev N_p_tree_at : List Str := ["tree", "path", "index", "parts"]
theorem sc_p_tree_at : FnScope N_p_tree_at ["tree", "path"] (defScope s_p_tree_at) := ⟨rfl, rfl, rfl, by decide +kernel, rfl, by decide +kernel, by decide +kernel⟩
theorem ok_tree_at (T : Txt mg) (c_p_parts_of : Cl P w K mg base 1 "parts_of" (spParts K)) (D : At K mg "tree_at" s_p_tree_at ["tree", "path"]) : Cl P w K mg base 2 "tree_at" (spAt K) := by
  refine cl_of D sc_p_tree_at (fun vs H Q E h => ?_) fun f cdv A outer s H vs Q E hr h => ?_
  · obtain ⟨v, b, t, p, rfl, _⟩ := h
    rfl
  · obtain ⟨v, b, t, p, rfl, hd, o, hb, k0, k1⟩ := h
    refine ⟨_, (pss_cons (ps_for PassesOwn.never rfl (pi_seq (pv 1)) (pg_name (i := 2) sc_p_tree_at.nd rfl (Or.inl rfl))
        (pss_cons (ps_set (i := 3) sc_p_tree_at.nd rfl (Or.inl rfl) (pe_c c_p_parts_of hr (by decide) (by rfl) (pa_cons (pv 0) pa_nil)))
        (pss_cons (ps_if (pt_not (pt_chain op_le op_lt pe_int (pv 2) (pe_callB call_len_seq (by rfl) T.len (by decide +kernel) (pa_cons (pv 3) pa_nil))))
          (pss_one (ps_ret pe_non))
          pss_nil)
        (pss_one (ps_set (i := 0) sc_p_tree_at.nd rfl (Or.inl rfl) (pe_ix ix_tup (pv 3) (pv 2) (fun _ _ => rfl)))))))
      (pss_one (ps_ret (pv 0)))), ?_⟩
    show tFor (iSeq K (tVar 1)) (gName 2) _ _ _ _
    refine for_seq (xs := p.map V.int) (fun Q q => ⟨_, rfl, q⟩) hb (fun i σ H' => ∃ (x : V) (s : Tr) (v2 v3 : Option V), σ = [some x, some (.ref b), v2, v3] ∧ Same H H' ∧ Tr.at (p.take i) t = some s ∧ Dp K H' x s.enc)
      ⟨v, t, _, _, rfl, Same.refl H, rfl, hd⟩ (fun i σ H' z => by
        obtain ⟨_, _, _, _, _, s1, _⟩ := z
        exact s1) ?_ ?_
    · rintro i x σ H1 hi ⟨x, s, v2, v3, rfl, s1, es, hx⟩ ex
      obtain ⟨j, ej, rfl⟩ := map_at ex
      have os := at_ok _ o es
      have ep : p.take (i + 1) = p.take i ++ [j] := by
        rw [List.take_add_one, ej]
        rfl
      have epp : p = p.take i ++ ([j] ++ p.drop (i + 1)) := by
        rw [← List.append_assoc, ← ep, List.take_append_drop]
      cases s with
      | mk h ps =>
      obtain ⟨o1, o2, o3⟩ := ok_mk os
      refine ⟨_, rfl, x, h, Tr.encL ps, rfl, hx, by rw [encL_len]; exact o1, flat_encL ps, by rw [encL_len]; omega, fun q us H2 s2 hq hu => ?_⟩
      have hul := DpAll.len hu
      rw [encL_len] at hul
      have none_of : Tr.at [j] (.mk h ps) = none → Tr.at p t = none := fun e => by
        have e1 : ∀ (r q : List Int) (t : Tr), Tr.at (q ++ r) t = (Tr.at q t).bind (Tr.at r) := by
          intro r q
          induction q with
          | nil => intro t; rfl
          | cons a q ih =>
            intro t
            cases t with
            | mk h ps =>
              show (if 0 ≤ a then (ps[a.toNat]?).bind (Tr.at (q ++ r)) else none) = ((if 0 ≤ a then (ps[a.toNat]?).bind (Tr.at q) else none) : Option Tr).bind (Tr.at r)
              by_cases z : 0 ≤ a
              · rw [if_pos z, if_pos z]
                cases ps[a.toNat]? with
                | none => rfl
                | some p => exact ih p
              · rw [if_neg z, if_neg z]
                rfl
        rw [epp, e1, es]
        show Tr.at ([j] ++ p.drop (i + 1)) (.mk h ps) = none
        rw [e1, e]
        rfl
      refine ⟨_, rfl, _, _, rfl, rfl, _, rfl, ?_⟩
      by_cases h0 : 0 ≤ j
      · rw [decide_eq_true h0]
        refine iteT ⟨_, rfl, q, _, rfl, .inr hq, _, _, rfl, rfl, _, rfl, ?_⟩
        by_cases h1 : j < (us.length : Int)
        · rw [decide_eq_true h1]
          refine iteF ?_
          obtain ⟨m, rfl⟩ : ∃ m : Nat, j = (m : Int) := ⟨j.toNat, by omega⟩
          have hm : m < us.length := by omega
          obtain ⟨d, g1, g2⟩ := DpAll.atV hu (List.getElem?_eq_getElem hm)
          obtain ⟨s', e', rfl⟩ := encL_at g1
          refine ⟨_, rfl, _, rfl, q, _, _, _, rfl, rfl, hq, atI_nat (List.getElem?_eq_getElem hm), ?_⟩
          refine ⟨_, s', _, _, rfl, s1.trans s2, ?_, g2⟩
          rw [ep, at_snoc, es]
          show Tr.at [(m : Int)] (.mk h ps) = some s'
          rw [at_one, e']
        · rw [decide_eq_false h1]
          refine iteT ?_
          refine k0 _ (s1.trans s2) (none_of ?_)
          show (if 0 ≤ j then (ps[j.toNat]?).bind (Tr.at []) else none) = none
          rw [if_pos h0, List.getElem?_eq_none (by omega)]
          rfl
      · rw [decide_eq_false h0]
        refine iteF ⟨_, rfl, iteT ?_⟩
        refine k0 _ (s1.trans s2) (none_of ?_)
        show (if 0 ≤ j then (ps[j.toNat]?).bind (Tr.at []) else none) = none
        rw [if_neg h0]
    · rintro σ H1 ⟨x, s, v2, v3, rfl, s1, es, hx⟩
      rw [List.length_map, List.take_length] at es
      exact ⟨_, rfl, k1 x s H1 s1 es hx⟩
abbrev s_p_tree_with : Stmt := top 7
abbrev N_p_tree_with : List Str := ["tree", "path", "other", "parts"]
theorem sc_p_tree_with : FnScope N_p_tree_with ["tree", "path", "other"] (defScope s_p_tree_with) := ⟨rfl, rfl, rfl, by decide +kernel, rfl, by decide +kernel, by decide +kernel⟩
theorem ok_tree_with (T : Txt mg) (c_p_parts_of : Cl P w K mg base 1 "parts_of" (spParts K)) (c_p_with_parts : Cl P w K mg base 1 "with_parts" (spWith K)) (D : At K mg "tree_with" s_p_tree_with ["tree", "path", "other"]) :
    ∀ n, Cl P w K mg base (n + 2) "tree_with" (spPut K n) := by
  intro n
  induction n with
  | zero =>
    refine cl_of D sc_p_tree_with (fun vs H Q E h => ?_) fun f cdv A outer s H vs Q E hr h => ?_
    · obtain ⟨v, o, b, t, u, p, rfl, _⟩ := h
      rfl
    · obtain ⟨v, ov, b, t, u, p, _, _, _, _, z, _⟩ := h
      exact absurd z (Nat.not_lt_zero _)
  | succ n ih =>
    refine cl_of D sc_p_tree_with (fun vs H Q E h => ?_) fun f cdv A outer s H vs Q E hr h => ?_
    · obtain ⟨v, o, b, t, u, p, rfl, _⟩ := h
      rfl
    · obtain ⟨v, ov, b, t, u, p, rfl, hd, o, hov, hpn, hb, ⟨sa, esa⟩, k⟩ := h
      have hr1 := hr.mono (show 1 ≤ n + 2 by omega)
      refine ⟨_, (pss_mid (ps_set (i := 1) sc_p_tree_with.nd rfl (Or.inl rfl) (pe_tupleOf (by rfl) T.tuple (pv 1)))
        (pss_cons (ps_if (pt_cmpR (op_eqD hr.units) (pv 1) (pe_tup pa_nil) (nomark _))
          (pss_one (ps_ret (pv 2)))
          pss_nil)
        (pss_cons (ps_set (i := 3) sc_p_tree_with.nd rfl (Or.inl rfl) (pe_callTy call_list_of (by rfl) T.list (by decide +kernel) (pa_cons (pe_c c_p_parts_of hr (by omega) (by rfl) (pa_cons (pv 0) pa_nil)) pa_nil)))
        (pss_cons (ps_asg (pe_c ih hr (by omega) (by rfl) (pa_cons (pe_ix ix_list (pv 3) (pe_ix ix_tup (pv 1) pe_int (fun _ _ => rfl)) (fun _ _ => rfl)) (pa_cons (pe_slice sl_tupA (pv 1) (po_some pe_int) po_none) (pa_cons (pv 2) pa_nil)))) (pg_sub (pv 3) (pe_ix ix_tup (pv 1) pe_int (fun _ _ => rfl)) set_list))
        (pss_one (ps_ret (pe_c c_p_with_parts hr (by omega) (by rfl) (pa_cons (pv 0) (pa_cons (pv 3) pa_nil))))))))), ?_⟩
      refine ⟨fun σ' H' => ∃ b' : Addr, σ' = [some v, some (.ref b'), some ov, none] ∧ Same H H' ∧ SqT K H' b' (p.map V.int), ?_, ?_⟩
      · rcases hb with hb | hb
        · exact ⟨_, rfl, .inl ⟨b, _, rfl, hb, fun q hq => ⟨q, rfl, same_new hq, .inl (.inl upd_same)⟩⟩⟩
        · exact ⟨_, rfl, .inr ⟨b, _, rfl, hb, ⟨b, rfl, Same.refl _, hb⟩⟩⟩
      clear hb
      rintro σ' H1 ⟨b, rfl, s1, hb⟩
      refine ⟨_, rfl, by show 0 ≤ sizeLine; decide, fun e0 he0 => ?_⟩
      have s2 := same_new (o := .tup []) he0
      refine ⟨pathI p, .tuple [], dp_pathI (sqt_same s2 hb), .tup (.inl (.inl upd_same)) .nil, ?_, by decide +kernel, _, rfl, ?_⟩
      · exact (Lay.tup (n := 0) (ds := p.map PyData.int) fun d hd => by
          obtain ⟨i, _, rfl⟩ := List.mem_map.mp hd
          exact .int i 0).sh (by decide)
      have S2 := s1.trans s2
      have hb2 := sqt_same s2 hb
      generalize upd H1 e0 (.tup []) = H2 at *
      cases p with
      | nil =>
        refine iteT ⟨_, rfl, ?_⟩
        exact k _ _ S2 (dp_same S2 _ _ hov)
      | cons j r =>
        refine iteF ?_
        cases t with
        | mk h ps =>
        obtain ⟨o1, o2, o3⟩ := ok_mk o
        have esa' : (if 0 ≤ j then (ps[j.toNat]?).bind (Tr.at r) else none) = some sa := esa
        have h0 : 0 ≤ j := by
          by_cases q : 0 ≤ j
          · exact q
          · rw [if_neg q] at esa'
            cases esa'
        obtain ⟨m, rfl⟩ : ∃ m : Nat, j = (m : Int) := ⟨j.toNat, by omega⟩
        rw [if_pos h0, Int.toNat_natCast] at esa'
        obtain ⟨c, ec⟩ : ∃ c, ps[m]? = some c := by
          cases e : ps[m]? with
          | none => rw [e] at esa'; cases esa'
          | some c => exact ⟨c, rfl⟩
        rw [ec] at esa'
        have hm : m < ps.length := (List.getElem?_eq_some_iff.mp ec).1
        refine ⟨_, rfl, v, h, Tr.encL ps, rfl, dp_same S2 _ _ hd, by rw [encL_len]; exact o1, flat_encL ps, by rw [encL_len]; omega, fun q us H3 s3 hq hu => ?_⟩
        refine ⟨q, _, rfl, .inr hq, fun l hl => ?_⟩
        have s4 := same_new (o := .lst us) hl
        have S4 := S2.trans (s3.trans s4)
        have hu4 := dps_same s4 _ _ hu
        have hul := DpAll.len hu4
        rw [encL_len] at hul
        have hb4 := sqt_same (s3.trans s4) hb2
        have hl4 : (upd H3 l (.lst us)) l = some (.lst us) := upd_same
        have nl0 := free_of (S2.trans s3) hl
        generalize upd H3 l (.lst us) = H4 at *
        obtain ⟨vc, g1, g2⟩ := DpAll.at hu4 (show (Tr.encL ps)[m]? = some c.enc by rw [encL_map, List.getElem?_map, ec]; rfl)
        refine ⟨_, rfl, _, rfl, b, _, _, _, rfl, rfl, hb4, atI_nat (j := 0) rfl, l, _, _, _, rfl, rfl, .inl (.inl hl4), atI_nat g1, _, rfl, 1, rfl, ?_⟩
        refine sl_from (k := 1) hb4 (by rw [List.map_cons, List.length_cons]; omega) fun t5 H5 s5 ht5 => ?_
        have S5 := S4.trans s5
        refine ⟨_, rfl, vc, ov, t5, c, u, r, rfl, dp_same s5 _ _ g2, o3 c (List.mem_of_getElem? ec), dp_same S5 _ _ hov, by rw [List.length_cons] at hpn; omega, .inr ht5, ⟨sa, esa'⟩, fun rv H6 s6 hrv => ?_⟩
        have s56 := s5.trans s6
        refine ⟨_, rfl, _, rfl, b, _, _, _, rfl, rfl, sqt_same s56 hb4, atI_nat (j := 0) rfl, l, us, _, m, rfl, rfl, s56 _ _ hl4, ?_, ?_⟩
        · exact ixn_at (by omega)
        have hl6 := s56 _ _ hl4
        have hu7 : DpAll K (upd H6 l (.lst (us.set m rv))) (us.set m rv) (Tr.encL (ps.set m (Tr.put r c u))) := by
          rw [encL_set]
          exact DpAll.set (dp_keep (fun _ _ q => sqt_put hl6 q) _ _ (flat_enc _) hrv) m (dps_keep (fun _ _ q => sqt_put hl6 q) _ _ (flat_encL ps) (dps_same s56 _ _ hu4))
        have hl7 : (upd H6 l (.lst (us.set m rv))) l = some (.lst (us.set m rv)) := upd_same
        have S7 : Same H (upd H6 l (.lst (us.set m rv))) := same_put (S4.trans s56) nl0
        generalize upd H6 l (.lst (us.set m rv)) = H7 at *
        refine ⟨_, rfl, _, rfl, v, l, h, Tr.encL ps, Tr.encL (ps.set m (Tr.put r c u)), _, rfl, dp_same S7 _ _ hd, by rw [encL_len]; exact o1, by rw [encL_len, encL_len, List.length_set], by rw [encL_len, List.length_set]; omega, flat_encL _, .inl (.inl (.inl hl7)), hu7, fun x H8 s8 hx => ?_⟩
        refine k x H8 (S7.trans s8) ?_
        have ep : Tr.put ((m : Int) :: r) (.mk h ps) u = .mk h (ps.set m (Tr.put r c u)) := by
          show (match ps[((m : Nat) : Int).toNat]? with | some p => _ | none => _) = _
          rw [Int.toNat_natCast, ec]
        rw [ep]
        exact hx
end
end K26

namespace K26
open PySem L2 Cm
def spPaths (K : PySem.W.Frag) (n : Nat) : Sp := fun vs H Q _ => ∃ (v : V) (t : Tr), vs = [v] ∧ Dp K H v t.enc ∧ t.ok ∧ t.dep ≤ n ∧ t.size ≤ 1000 ∧
  ∀ (r : Addr) (us : List V) (H' : Hp), Same H H' → SqT K H' r us → DpAll K H' us (t.paths.map pathI) → Q (.ref r) H'
theorem size_mem {t : Tr} : ∀ {ps : List Tr}, t ∈ ps → t.size ≤ Tr.sizes ps
  | a :: ps, h => by
    show t.size ≤ a.size + Tr.sizes ps
    rcases List.mem_cons.mp h with rfl | h
    · omega
    · have := size_mem h
      omega
theorem sizes_take : ∀ (ps : List Tr) (i : Nat), Tr.sizes (ps.take i) ≤ Tr.sizes ps
  | [], i => by rw [List.take_nil]; exact Nat.le_refl _
  | a :: ps, 0 => Nat.zero_le _
  | a :: ps, i + 1 => by
    have := sizes_take ps i
    show a.size + Tr.sizes (ps.take i) ≤ a.size + Tr.sizes ps
    omega
section
variable {P : Program} {w : World} {K : PySem.W.Frag} {mg : Str → Option Value} {base : Heap}
abbrev s_p_tree_paths : Stmt := top 8
abbrev N_p_tree_paths : List Str := ["tree", "found", "index", "part", "path"]
theorem sc_p_tree_paths : FnScope N_p_tree_paths ["tree"] (defScope s_p_tree_paths) := ⟨rfl, rfl, rfl, by decide +kernel, rfl, by decide +kernel, by decide +kernel⟩
theorem ok_tree_paths (T : Txt mg) (c_p_parts_of : Cl P w K mg base 1 "parts_of" (spParts K)) (D : At K mg "tree_paths" s_p_tree_paths ["tree"]) : ∀ n, Cl P w K mg base (n + 2) "tree_paths" (spPaths K n) := by
  intro n
  induction n with
  | zero =>
    refine cl_of D sc_p_tree_paths (fun vs H Q E h => ?_) fun f cdv A outer s H vs Q E hr h => ?_
    · obtain ⟨v, t, rfl, _⟩ := h
      rfl
    · obtain ⟨v, t, _, _, _, z, _⟩ := h
      cases t with
      | mk hd ps => exact absurd z (by show ¬ (Tr.deps ps + 1 ≤ 0); omega)
  | succ n ih =>
    refine cl_of D sc_p_tree_paths (fun vs H Q E h => ?_) fun f cdv A outer s H vs Q E hr h => ?_
    · obtain ⟨v, t, rfl, _⟩ := h
      rfl
    · obtain ⟨v, t, rfl, hd, o, hdep, hsz, k⟩ := h
      cases t with
      | mk h ps =>
      obtain ⟨o1, o2, o3⟩ := ok_mk o
      have hsz' : Tr.sizes ps + 1 ≤ 1000 := hsz
      refine ⟨_, (pss_cons (ps_set (i := 1) sc_p_tree_paths.nd rfl (Or.inl rfl) (pe_lst (pa_cons (pe_tup pa_nil) pa_nil)))
      (pss_cons (ps_for PassesOwn.never rfl (pi_enumT (by rfl) T.enumerate (pa_cons (pe_c c_p_parts_of hr (by omega) (by rfl) (pa_cons (pv 0) pa_nil)) pa_nil)) (pg_tup (by rfl) (pgs_cons (pg_name (i := 2) sc_p_tree_paths.nd rfl (Or.inr rfl)) (pgs_cons (pg_name (i := 3) sc_p_tree_paths.nd rfl (Or.inl rfl)) pgs_nil)))
        (pss_one (ps_expr (pe_bm PySem.F.plainAttrs_list PySem.F.slot_list_extend PySem.F.type_list_extend mt_extend (pv 1) (pa_cons (pe_lc (own := [("path", 4)]) rfl sc_p_tree_paths.nd (pi_tup (pe_c ih hr (by omega) (by rfl) (pa_cons (pv 3) pa_nil))) (blkOk_by (N := N_p_tree_paths) (sc := defScope s_p_tree_paths) (by decide +kernel))
      (fun _ _ _ _ _ => (pg_name (i := 4) sc_p_tree_paths.nd rfl (Or.inl rfl)))
      (fun _ _ _ _ _ => pts_nil)
      (fun _ _ _ _ _ => (pe_op (ko_catA (K := K)) (pe_tup (pa_cons (pv 2) pa_nil)) (pv 4)))) pa_nil)))))
      (pss_one (ps_ret (pe_tupleOf (by rfl) T.tuple (pv 1)))))), ?_⟩
      refine ⟨by show 0 ≤ sizeLine; decide, fun e0 he0 => ⟨by show 1 ≤ sizeLine; decide, fun F hF => ?_⟩⟩
      have s0 : Same H (upd (upd H e0 (.tup [])) F (.lst [.ref e0])) := (same_new he0).trans (same_new hF)
      have hF0 : H F = none := free_of (same_new he0) hF
      refine ⟨_, rfl, v, h, Tr.encL ps, rfl, dp_same s0 _ _ hd, by rw [encL_len]; exact o1, flat_encL ps, by rw [encL_len]; omega, fun q us H1 s1 hq hu => ?_⟩
      have hul := DpAll.len hu
      rw [encL_len] at hul
      refine ⟨q, _, rfl, hq, ?_⟩
      have hF1 : H1 F = some (.lst [.ref e0]) := s1 _ _ upd_same
      have hacc0 : DpAll K H1 [.ref e0] (([] :: Tr.pathsL 0 (ps.take 0)).map pathI) := by
        have he : SqT K (upd (upd H e0 (.tup [])) F (.lst [.ref e0])) e0 (([] : List Int).map V.int) := .inl (.inl ((same_new hF) _ _ upd_same))
        exact .cons (dp_pathI (sqt_same s1 he)) .nil
      refine for_it (walk_enumT (xs := us)) (fun i σ H' => ∃ (acc : List V) (v2 v3 : Option V), σ = [some v, some (.ref F), v2, v3, none] ∧ Same H H' ∧ SqT K H' q us ∧ DpAll K H' us (Tr.encL ps) ∧ H' F = some (.lst acc) ∧ DpAll K H' acc (([] :: Tr.pathsL 0 (ps.take i)).map pathI))
        ⟨_, none, none, rfl, s0.trans s1, hq, hu, hF1, hacc0⟩ (fun i σ H' _ z => ?_) ?_ ?_
      · obtain ⟨_, _, _, _, _, z, _⟩ := z
        exact z
      · rintro i x σ H2 H3 hi ⟨acc, v2, v3, rfl, s2, hq2, hu2, hF2, ha2⟩ ⟨T1, x1, x2, rfl, hT, rfl, e1, e2⟩
        cases e1
        have s3 := same_new (o := .tup [.int (i : Nat), x2]) hT
        obtain ⟨d, g1, g2⟩ := DpAll.atV hu2 e2
        obtain ⟨c, ec, rfl⟩ := encL_at g1
        refine ⟨T1, _, rfl, .inl (.inl upd_same), rfl, _, _, rfl, _, _, rfl, rfl, ?_⟩
        have hF3 := s3 _ _ hF2
        have S3 := s2.trans s3
        have hq3 := sqt_same s3 hq2
        have hu3 := dps_same s3 _ _ hu2
        have ha3 := dps_same s3 _ _ ha2
        have g3 := dp_same s3 _ _ g2
        generalize upd H2 T1 (.tup [.int (i : Nat), x2]) = H3 at *
        have hcm : c ∈ ps := List.mem_of_getElem? ec
        have hcs : c.size ≤ 1000 := by have := size_mem hcm; omega
        refine ⟨_, rfl, .inl ⟨rfl, _, .inl (.inl hF3)⟩, _, rfl, x2, c, rfl, g3, o3 c hcm, dep_mk.mp hdep c hcm, hcs, fun r ws H4 s4 hr4 hw4 => ?_⟩
        refine ⟨r, rfl, ⟨_, hr4⟩, fun L hL => ?_⟩
        have hwl := DpAll.len hw4
        rw [List.length_map, paths_len] at hwl
        refine lc_data (K := K) (walk_tup (xs := ws)) (fun m => (c.paths[m]?).map fun p => pathI (((i : Nat) : Int) :: p)) hL (by omega) (fun H' s => sqt_same s hr4) (fun m _ d e => ?_) ?_ ?_
        · obtain ⟨p, _, rfl⟩ := Option.map_eq_some_iff.mp e
          exact flatDs_ints _
        · rintro m x H5 H6 hm s5 ⟨rfl, e5⟩ Q1 Q0 q1 q0
          obtain ⟨d, g4, g5⟩ := DpAll.atV hw4 e5
          obtain ⟨p, ep, rfl⟩ := map_at g4
          obtain ⟨tp, rfl, htp⟩ := pathI_inv (dp_same s5 _ _ g5)
          refine ⟨rfl, ?_⟩
          refine ⟨_, rfl, by show 1 ≤ sizeLine; decide, fun t6 ht6 => ⟨_, rfl, ?_⟩⟩
          have s6 := same_new (o := .tup [.int (i : Nat)]) ht6
          have hpl : p.length < 100000 := by
            have h1 := paths_size c.dep c (Nat.le_refl _) p (List.mem_of_getElem? ep)
            have h2 : ∀ t : Tr, t.dep ≤ t.size := fun t => tr_ind (P := fun t => t.dep ≤ t.size) (fun hd ps ih => by
              have h3 : Tr.deps ps ≤ Tr.sizes ps := deps_le.mpr fun t ht => Nat.le_trans (ih t ht) (size_mem ht)
              show Tr.deps ps + 1 ≤ Tr.sizes ps + 1
              omega) t
            have := h2 c
            omega
          refine cat_any (.inl (.inl upd_same)) (sqt_same s6 htp) (by rw [List.length_map]; exact Nat.le_trans (show 1 + p.length ≤ 200000 by omega) (by decide)) fun t7 H7 s7 ht7 => ?_
          exact q1 _ _ (pathI (((i : Nat) : Int) :: p)) (by rw [ep]; rfl) (s6.trans s7) (dp_pathI ht7)
        · intro H5 bcc s5 hbcc hb5
          have e6 : (List.range ws.length).filterMap (fun m => (c.paths[m]?).map fun p => pathI (((i : Nat) : Int) :: p)) = (c.paths.map fun p => ((i : Nat) : Int) :: p).map pathI := by
            rw [hwl, ← paths_len, range_map, List.map_map]
            rfl
          rw [e6] at hb5
          have S5 := s4.trans s5
          have hal := DpAll.len ha3
          have hbl := DpAll.len hb5
          simp only [List.length_map, List.length_cons, pathsL_len, paths_len] at hal hbl
          have := sizes_take ps i
          refine ⟨F, L, acc, bcc, rfl, rfl, S5 _ _ hF3, hbcc, Nat.le_trans (show acc.length + bcc.length ≤ 5000 by omega) (by decide), ?_⟩
          have hF5 := S5 _ _ hF3
          refine ⟨acc ++ bcc, _, _, rfl, same_put (S3.trans S5) hF0, sqt_put hF5 (sqt_same S5 hq3), dps_keep (fun _ _ q => sqt_put hF5 q) _ _ (flat_encL ps) (dps_same S5 _ _ hu3), upd_same, ?_⟩
          have et : ps.take (i + 1) = ps.take i ++ [c] := by rw [List.take_add_one, ec]; rfl
          have hil : (ps.take i).length = i := by
            have := (List.getElem?_eq_some_iff.mp ec).1
            rw [List.length_take]
            omega
          rw [et, pathsL_snoc, hil, Nat.zero_add]
          have h8 := dps_keep (fun _ _ q => sqt_put (zs := acc ++ bcc) hF5 q) _ _ (flat_pathI _) (dps_same S5 _ _ ha3)
          have h9 := dps_keep (fun _ _ q => sqt_put (zs := acc ++ bcc) hF5 q) _ _ (flat_pathI _) hb5
          have h10 := DpAll.app h8 h9
          rw [← List.map_append] at h10
          exact h10
      · rintro σ H2 ⟨acc, v2, v3, rfl, s2, hq2, hu2, hF2, ha2⟩
        rw [List.take_of_length_le (by omega)] at ha2
        refine ⟨_, rfl, .inl ⟨F, _, rfl, .inl (.inl hF2), fun t ht => ?_⟩⟩
        exact k t acc _ (s2.trans (same_new ht)) (.inl (.inl upd_same)) (dps_same (same_new ht) _ _ ha2)
end
end K26

namespace K26
open PySem L2 Cm
def spKeep (K : PySem.W.Frag) : Sp := fun vs H Q _ => ∃ (v : V) (t : Tr), vs = [v] ∧ Dp K H v t.enc ∧ t.ok ∧ t.dep ≤ 12 ∧ t.size ≤ 1000 ∧
  ∀ (r : Addr) (us : List V) (H' : Hp), Same H H' → SqT K H' r us → DpAll K H' us ((keepPaths t).map pathI) → Q (.ref r) H'
theorem range_filter {α β : Type} (f : α → β) (g : α → Bool) (l : List α) : (List.range l.length).filterMap (fun i => (l[i]?).bind fun x => if g x = true then some (f x) else none) = (l.filter g).map f := by
  induction l with
  | nil => rfl
  | cons a l ih =>
    rw [List.length_cons, List.range_succ_eq_map, List.filterMap_cons]
    simp only [List.getElem?_cons_zero, Option.bind_some, List.filterMap_map]
    have e : List.filterMap ((fun i => ((a :: l)[i]?).bind fun x => if g x = true then some (f x) else none) ∘ Nat.succ) (List.range l.length) = (l.filter g).map f := by
      rw [← ih]
      rfl
    rw [e]
    by_cases q : g a = true
    · rw [if_pos q, List.filter_cons_of_pos q]
      rfl
    · rw [if_neg q, List.filter_cons_of_neg q]
section
variable {P : Program} {w : World} {K : PySem.W.Frag} {mg : Str → Option Value} {base : Heap}
abbrev s_p_keep_paths : Stmt := top 10
abbrev N_p_keep_paths : List Str := ["tree", "path"]
theorem sc_p_keep_paths : FnScope N_p_keep_paths ["tree"] (defScope s_p_keep_paths) := ⟨rfl, rfl, rfl, by decide +kernel, rfl, by decide +kernel, by decide +kernel⟩
theorem ok_keep_paths (T : Txt mg) (c_p_tree_at : Cl P w K mg base 2 "tree_at" (spAt K)) (c_p_tree_paths : Cl P w K mg base 14 "tree_paths" (spPaths K 12)) (D : At K mg "keep_paths" s_p_keep_paths ["tree"]) : Cl P w K mg base 15 "keep_paths" (spKeep K) := by
  refine cl_of D sc_p_keep_paths (fun vs H Q E h => ?_) fun f cdv A outer s H vs Q E hr h => ?_
  · obtain ⟨v, t, rfl, _⟩ := h
    rfl
  · obtain ⟨v, t, rfl, hd, o, hdep, hsz, k⟩ := h
    refine ⟨_, (pss_one (ps_ret (pe_tupleOf (by rfl) T.tuple (pe_lc (own := [("path", 1)]) rfl sc_p_keep_paths.nd (pi_tup (pe_c c_p_tree_paths hr (by decide) (by rfl) (pa_cons (pv 0) pa_nil))) (blkOk_by (N := N_p_keep_paths) (sc := defScope s_p_keep_paths) (by decide +kernel))
      (fun _ _ _ _ _ => (pg_name (i := 1) sc_p_keep_paths.nd rfl (Or.inl rfl)))
      (fun _ _ _ _ _ => (pts_one (pt_cmpR op_eq (pe_ix (kx_tup (K := K)) (pe_c c_p_tree_at hr (by decide) (by rfl) (pa_cons (pv 0) (pa_cons (pv 1) pa_nil))) pe_int (fun _ _ => rfl)) pe_str (nomark _))))
      (fun _ _ _ _ _ => (pv 1)))))), ?_⟩
    refine ⟨_, rfl, v, t, rfl, hd, o, hdep, hsz, fun q us H1 s1 hq hu => ?_⟩
    have hul := DpAll.len hu
    rw [List.length_map, paths_len] at hul
    refine ⟨q, rfl, ⟨_, hq⟩, fun L hL => ?_⟩
    refine lc_data (K := K) (walk_tup (xs := us)) (fun i => (t.paths[i]?).bind fun p => if keepAt t p = true then some (pathI p) else none) hL (by omega) (fun H' s => sqt_same s hq) (fun i _ d e => ?_) ?_ ?_
    · obtain ⟨p, _, e'⟩ := Option.bind_eq_some_iff.mp e
      split at e'
      · cases e'
        exact flatDs_ints p
      · cases e'
    · rintro i x H2 H3 hi s2 ⟨rfl, e2⟩ Q1 Q0 q1 q0
      obtain ⟨d, g1, g2⟩ := DpAll.atV hu e2
      obtain ⟨p, ep, rfl⟩ := map_at g1
      have g3 := dp_same s2 _ _ g2
      obtain ⟨tp, rfl, htp⟩ := pathI_inv g3
      obtain ⟨sa, esa⟩ := paths_at t.dep t (Nat.le_refl _) p (List.mem_of_getElem? ep)
      refine ⟨rfl, ?_⟩
      refine ⟨_, rfl, _, rfl, v, tp, t, p, rfl, dp_same (s1.trans s2) _ _ hd, o, .inr htp, (fun _ _ z => by rw [esa] at z; cases z), fun r s' H4 s4 es' hr' => ?_⟩
      rw [esa] at es'
      cases es'
      cases sa with
      | mk h ps =>
      obtain ⟨a, its, rfl, hs, hx⟩ := view hr'
      obtain ⟨o1, o2, o3⟩ := ok_mk (at_ok p o esa)
      refine ⟨a, its, _, _, rfl, rfl, hs, hx.head, rfl, _, rfl, ?_⟩
      rw [eq_keep o1]
      have ek : keepAt t p = isKeep h := by unfold keepAt; rw [esa]; rfl
      cases eb : isKeep h with
      | true => exact iteT ⟨_, rfl, q1 _ _ (pathI p) (by rw [ep]; show (if keepAt t p = true then _ else _) = _; rw [ek, eb]; rfl) s4 (dp_same s4 _ _ g3)⟩
      | false => exact iteF (q0 _ (by rw [ep]; show (if keepAt t p = true then _ else _) = _; rw [ek, eb]; rfl) s4)
    · intro H2 acc s2 hacc ha2
      rw [show us.length = t.paths.length by rw [hul, paths_len], range_filter] at ha2
      refine .inl ⟨L, _, rfl, .inl (.inl hacc), fun r ht => ?_⟩
      exact k r acc _ ((s1.trans s2).trans (same_new ht)) (.inl (.inl upd_same)) (dps_same (same_new ht) _ _ ha2)
/-- the paths below a path, as a new list -/
def spDown (K : PySem.W.Frag) (G : Tr → List (List Int)) (n : Nat) : Sp := fun vs H Q _ => ∃ (v : V) (b : Addr) (t : Tr) (pre : List Int), vs = [v, .ref b] ∧ Dp K H v t.enc ∧ t.ok ∧ t.dep ≤ n ∧ t.size ≤ 1000 ∧ SqT K H b (pre.map V.int) ∧ pre.length + n ≤ 1000 ∧
  ∀ (l : Addr) (us : List V) (H' : Hp), Same H H' → H l = none → H' l = some (.lst us) → DpAll K H' us (((G t).map fun p => pre ++ p).map pathI) → Q (.ref l) H'
abbrev s_l_keeps : Stmt := top 22
abbrev N_l_keeps : List Str := ["_law_tree", "_law_path", "_law_found", "_law_at", "_law_inner"]
theorem sc_l_keeps : FnScope N_l_keeps ["_law_tree", "_law_path"] (defScope s_l_keeps) := ⟨rfl, rfl, rfl, by decide +kernel, rfl, by decide +kernel, by decide +kernel⟩
theorem ok_l_keeps (T : Txt mg) (c_l_parts : Cl P w K mg base 1 "_law_parts" (spPartsL K)) (D : At K mg "_law_keeps" s_l_keeps ["_law_tree", "_law_path"]) : ∀ n, Cl P w K mg base (n + 2) "_law_keeps" (spDown K keepPaths n) := by
  intro n
  induction n with
  | zero =>
    refine cl_of D sc_l_keeps (fun vs H Q E h => ?_) fun f cdv A outer s H vs Q E hr h => ?_
    · obtain ⟨v, b, t, pre, rfl, _⟩ := h
      rfl
    · obtain ⟨v, b, t, pre, _, _, _, z, _⟩ := h
      cases t with
      | mk hd ps => exact absurd z (by show ¬ (Tr.deps ps + 1 ≤ 0); omega)
  | succ n ih =>
    refine cl_of D sc_l_keeps (fun vs H Q E h => ?_) fun f cdv A outer s H vs Q E hr h => ?_
    · obtain ⟨v, b, t, pre, rfl, _⟩ := h
      rfl
    · obtain ⟨v, b, t, pre, rfl, hd, o, hdep, hsz, hb, hpl, k⟩ := h
      cases t with
      | mk h ps =>
      obtain ⟨o1, o2, o3⟩ := ok_mk o
      have hsz' : Tr.sizes ps + 1 ≤ 1000 := hsz
      obtain ⟨a, its, rfl, hs, hx⟩ := view hd
      refine ⟨_, (pss_mid (ps_set (i := 2) sc_l_keeps.nd rfl (Or.inl rfl) (pe_ifExp (pt_cmpR op_eq (pe_ix ix_tup (pv 0) pe_int (fun _ _ => rfl)) pe_str (nomark _)) (pe_lst (pa_cons (pv 1) pa_nil)) (pe_lst pa_nil)))
      (pss_cons (ps_for PassesOwn.never rfl (pi_enum (by rfl) T.enumerate (pa_cons (pe_c c_l_parts hr (by omega) (by rfl) (pa_cons (pv 0) pa_nil)) pa_nil)) (pg_tup (by rfl) (pgs_cons (pg_name (i := 3) sc_l_keeps.nd rfl (Or.inl rfl)) (pgs_cons (pg_name (i := 4) sc_l_keeps.nd rfl (Or.inl rfl)) pgs_nil)))
        (pss_one (ps_set (i := 2) sc_l_keeps.nd rfl (Or.inl rfl) (pe_op op_cat (pv 2) (pe_c ih hr (by omega) (by rfl) (pa_cons (pv 4) (pa_cons (pe_op op_catA (pv 1) (pe_tup (pa_cons (pv 3) pa_nil))) pa_nil)))))))
      (pss_one (ps_ret (pv 2))))), ?_⟩
      refine ⟨fun σ' H' => ∃ (F : Addr) (acc : List V), σ' = [some (.ref a), some (.ref b), some (.ref F), none, none] ∧ Same H H' ∧ H F = none ∧ H' F = some (.lst acc) ∧ DpAll K H' acc (((if isKeep h = true then [[]] else []).map fun p => pre ++ p).map pathI), ?_, ?_⟩
      · refine ⟨_, rfl, a, its, _, _, rfl, rfl, hs, hx.head, rfl, _, rfl, ?_⟩
        rw [eq_keep o1]
        cases eb : isKeep h with
        | true =>
          refine iteT ⟨_, rfl, by show 1 ≤ sizeLine; decide, fun F hF => ⟨F, _, rfl, same_new hF, hF, upd_same, ?_⟩⟩
          rw [if_pos rfl]
          show DpAll K _ _ [pathI (pre ++ [])]
          rw [List.append_nil]
          exact .cons (dp_pathI (sqt_same (same_new hF) hb)) .nil
        | false => exact iteF ⟨by show 0 ≤ sizeLine; decide, fun F hF => ⟨F, _, rfl, same_new hF, hF, upd_same, .nil⟩⟩
      · rintro σ' H0 ⟨F, acc, rfl, s0, nF, hF0, ha0⟩
        refine ⟨_, rfl, .ref a, h, Tr.encL ps, rfl, dp_same s0 _ _ hd, by rw [encL_len]; exact o1, flat_encL ps, by rw [encL_len]; omega, fun l us H1 s1 nl hl hu => ?_⟩
        have hul := DpAll.len hu
        rw [encL_len] at hul
        refine ⟨l, _, rfl, .inl (.inl hl), ?_⟩
        refine for_it (walk_enum (xs := us)) (fun i σ H' => ∃ (F : Addr) (acc : List V) (v2 v3 : Option V), σ = [some (.ref a), some (.ref b), some (.ref F), v2, v3] ∧ Same H H' ∧ Same H1 H' ∧ H F = none ∧ H' F = some (.lst acc) ∧
            DpAll K H' acc ((((if isKeep h = true then [[]] else []) ++ keepL 0 (ps.take i)).map fun p => pre ++ p).map pathI))
          ⟨F, acc, none, none, rfl, s0.trans s1, Same.refl _, nF, s1 _ _ hF0, by
            rw [List.take_zero]
            show DpAll K H1 acc ((((if isKeep h = true then [[]] else []) ++ []).map fun p => pre ++ p).map pathI)
            rw [List.append_nil]
            exact dps_same s1 _ _ ha0⟩ (fun i σ H' _ z => ?_) ?_ ?_
        · obtain ⟨_, _, _, _, _, _, z, _⟩ := z
          exact .inl (.inl (z _ _ hl))
        · rintro i x σ H2 H3 hi ⟨F, acc, v2, v3, rfl, s2, s12, nF, hF2, ha2⟩ ⟨T1, x1, x2, rfl, hT, rfl, e1, e2⟩
          cases e1
          have s3 := same_new (o := .tup [.int (i : Nat), x2]) hT
          obtain ⟨d, g1, g2⟩ := DpAll.atV hu e2
          obtain ⟨c, ec, rfl⟩ := encL_at g1
          have S3 := s2.trans s3
          have S13 := s12.trans s3
          refine ⟨T1, _, rfl, .inl (.inl upd_same), rfl, _, _, rfl, _, _, rfl, rfl, ?_⟩
          have hF3 := s3 _ _ hF2
          have ha3 := dps_same s3 _ _ ha2
          have g3 := dp_same S13 _ _ g2
          generalize upd H2 T1 (.tup [.int (i : Nat), x2]) = H3 at *
          have hcm : c ∈ ps := List.mem_of_getElem? ec
          have hcs : c.size ≤ 1000 := by have := size_mem hcm; omega
          refine ⟨_, rfl, _, rfl, _, rfl, _, rfl, by show 1 ≤ sizeLine; decide, fun t4 ht4 => ?_⟩
          have s4 := same_new (o := .tup [.int (i : Nat)]) ht4
          refine cat_any (sqt_same (S3.trans s4) hb) (.inl (.inl upd_same)) (by rw [List.length_map]; exact Nat.le_trans (show pre.length + 1 ≤ 2000 by omega) (by decide)) fun t5 H5 s5 ht5 => ?_
          have s45 := s4.trans s5
          have hpre : SqT K H5 t5 ((pre ++ [((i : Nat) : Int)]).map V.int) := by rw [List.map_append]; exact ht5
          refine ⟨x2, t5, c, pre ++ [((i : Nat) : Int)], rfl, dp_same s45 _ _ g3, o3 c hcm, dep_mk.mp hdep c hcm, hcs, hpre, by rw [List.length_append, List.length_singleton]; omega, fun l2 ws H6 s6 nl2 hl2 hw => ?_⟩
          have s46 := s45.trans s6
          have hal := DpAll.len ha3
          have hwl := DpAll.len hw
          rw [List.length_map, List.length_map] at hal hwl
          have hk1 : (keepPaths c).length ≤ 1000 := by
            have : (keepPaths c).length ≤ c.paths.length := List.length_filter_le ..
            rw [paths_len] at this
            omega
          have hk2 := keepL_le (ps.take i) 0
          have hk3 := sizes_take ps i
          have hk4 : ((if isKeep h = true then [[]] else []) ++ keepL 0 (ps.take i) : List (List Int)).length ≤ 1 + (keepL 0 (ps.take i)).length := by
            rw [List.length_append]
            split <;> simp
          refine ⟨F, l2, acc, ws, rfl, rfl, s46 _ _ hF3, hl2, Nat.le_trans (show acc.length + ws.length ≤ 5000 by omega) (by decide), fun F2 hF2' => ?_⟩
          have s7 := same_new (o := .lst (acc ++ ws)) hF2'
          refine ⟨F2, _, _, _, rfl, (S3.trans s46).trans s7, (S13.trans s46).trans s7, free_of (S3.trans s46) hF2', upd_same, ?_⟩
          have et : ps.take (i + 1) = ps.take i ++ [c] := by rw [List.take_add_one, ec]; rfl
          have hil : (ps.take i).length = i := by
            have := (List.getElem?_eq_some_iff.mp ec).1
            rw [List.length_take]
            omega
          rw [et, keepL_snoc, hil, Nat.zero_add, ← List.append_assoc, List.map_append (l₁ := (if isKeep h = true then [[]] else []) ++ keepL 0 (ps.take i)), List.map_append]
          refine DpAll.app (dps_same (s46.trans s7) _ _ ha3) ?_
          have h8 := dps_same s7 _ _ hw
          have e8 : ((keepPaths c).map fun p => (pre ++ [((i : Nat) : Int)]) ++ p) = ((keepPaths c).map fun p => ((i : Nat) : Int) :: p).map fun p => pre ++ p := by
            rw [List.map_map]
            refine List.map_congr_left fun p _ => ?_
            show (pre ++ [((i : Nat) : Int)]) ++ p = pre ++ (((i : Nat) : Int) :: p)
            rw [List.append_assoc]
            rfl
          rw [e8] at h8
          exact h8
        · rintro σ H2 ⟨F, acc, v2, v3, rfl, s2, s12, nF, hF2, ha2⟩
          rw [List.take_of_length_le (by omega), ← keepPaths_mk] at ha2
          exact ⟨_, rfl, k F acc _ s2 nF hF2 ha2⟩
end
end K26

namespace K26
open PySem L2 Cm
section
variable {P : Program} {w : World} {K : PySem.W.Frag} {mg : Str → Option Value} {base : Heap}
abbrev s_l_paths : Stmt := top 25
abbrev N_l_paths : List Str := ["_law_tree", "_law_path", "_law_found", "_law_at", "_law_inner"]
theorem sc_l_paths : FnScope N_l_paths ["_law_tree", "_law_path"] (defScope s_l_paths) := ⟨rfl, rfl, rfl, by decide +kernel, rfl, by decide +kernel, by decide +kernel⟩
theorem ok_l_paths (T : Txt mg) (c_l_parts : Cl P w K mg base 1 "_law_parts" (spPartsL K)) (D : At K mg "_law_paths" s_l_paths ["_law_tree", "_law_path"]) : ∀ n, Cl P w K mg base (n + 2) "_law_paths" (spDown K Tr.paths n) := by
  intro n
  induction n with
  | zero =>
    refine cl_of D sc_l_paths (fun vs H Q E h => ?_) fun f cdv A outer s H vs Q E hr h => ?_
    · obtain ⟨v, b, t, pre, rfl, _⟩ := h
      rfl
    · obtain ⟨v, b, t, pre, _, _, _, z, _⟩ := h
      cases t with
      | mk hd ps => exact absurd z (by show ¬ (Tr.deps ps + 1 ≤ 0); omega)
  | succ n ih =>
    refine cl_of D sc_l_paths (fun vs H Q E h => ?_) fun f cdv A outer s H vs Q E hr h => ?_
    · obtain ⟨v, b, t, pre, rfl, _⟩ := h
      rfl
    · obtain ⟨v, b, t, pre, rfl, hd, o, hdep, hsz, hb, hpl, k⟩ := h
      cases t with
      | mk h ps =>
      obtain ⟨o1, o2, o3⟩ := ok_mk o
      have hsz' : Tr.sizes ps + 1 ≤ 1000 := hsz
      obtain ⟨a, its, rfl, hs, hx⟩ := view hd
      refine ⟨_, (pss_cons (ps_set (i := 2) sc_l_paths.nd rfl (Or.inl rfl) (pe_lst (pa_cons (pv 1) pa_nil)))
      (pss_cons (ps_for PassesOwn.never rfl (pi_enum (by rfl) T.enumerate (pa_cons (pe_c c_l_parts hr (by omega) (by rfl) (pa_cons (pv 0) pa_nil)) pa_nil)) (pg_tup (by rfl) (pgs_cons (pg_name (i := 3) sc_l_paths.nd rfl (Or.inl rfl)) (pgs_cons (pg_name (i := 4) sc_l_paths.nd rfl (Or.inl rfl)) pgs_nil)))
        (pss_one (ps_set (i := 2) sc_l_paths.nd rfl (Or.inl rfl) (pe_op op_cat (pv 2) (pe_c ih hr (by omega) (by rfl) (pa_cons (pv 4) (pa_cons (pe_op op_catA (pv 1) (pe_tup (pa_cons (pv 3) pa_nil))) pa_nil)))))))
      (pss_one (ps_ret (pv 2))))), ?_⟩
      refine ⟨_, rfl, by show 1 ≤ sizeLine; decide, fun F hFn => ?_⟩
      · have s0 := same_new (o := .lst [.ref b]) hFn
        have hF0 : (upd H F (.lst [.ref b])) F = some (.lst [.ref b]) := upd_same
        have nF := hFn
        have ha0 : DpAll K (upd H F (.lst [.ref b])) [.ref b] (([[]].map fun p => pre ++ p).map pathI) := by
          show DpAll K _ _ [pathI (pre ++ [])]
          rw [List.append_nil]
          exact .cons (dp_pathI (sqt_same s0 hb)) .nil
        generalize upd H F (.lst [.ref b]) = H0 at *
        refine ⟨_, rfl, .ref a, h, Tr.encL ps, rfl, dp_same s0 _ _ hd, by rw [encL_len]; exact o1, flat_encL ps, by rw [encL_len]; omega, fun l us H1 s1 nl hl hu => ?_⟩
        have hul := DpAll.len hu
        rw [encL_len] at hul
        refine ⟨l, _, rfl, .inl (.inl hl), ?_⟩
        refine for_it (walk_enum (xs := us)) (fun i σ H' => ∃ (F : Addr) (acc : List V) (v2 v3 : Option V), σ = [some (.ref a), some (.ref b), some (.ref F), v2, v3] ∧ Same H H' ∧ Same H1 H' ∧ H F = none ∧ H' F = some (.lst acc) ∧
            DpAll K H' acc ((([[]] ++ Tr.pathsL 0 (ps.take i)).map fun p => pre ++ p).map pathI))
          ⟨F, [.ref b], none, none, rfl, s0.trans s1, Same.refl _, nF, s1 _ _ hF0, by
            rw [List.take_zero]
            show DpAll K H1 [.ref b] ((([[]] ++ []).map fun p => pre ++ p).map pathI)
            rw [List.append_nil]
            exact dps_same s1 _ _ ha0⟩ (fun i σ H' _ z => ?_) ?_ ?_
        · obtain ⟨_, _, _, _, _, _, z, _⟩ := z
          exact .inl (.inl (z _ _ hl))
        · rintro i x σ H2 H3 hi ⟨F, acc, v2, v3, rfl, s2, s12, nF, hF2, ha2⟩ ⟨T1, x1, x2, rfl, hT, rfl, e1, e2⟩
          cases e1
          have s3 := same_new (o := .tup [.int (i : Nat), x2]) hT
          obtain ⟨d, g1, g2⟩ := DpAll.atV hu e2
          obtain ⟨c, ec, rfl⟩ := encL_at g1
          have S3 := s2.trans s3
          have S13 := s12.trans s3
          refine ⟨T1, _, rfl, .inl (.inl upd_same), rfl, _, _, rfl, _, _, rfl, rfl, ?_⟩
          have hF3 := s3 _ _ hF2
          have ha3 := dps_same s3 _ _ ha2
          have g3 := dp_same S13 _ _ g2
          generalize upd H2 T1 (.tup [.int (i : Nat), x2]) = H3 at *
          have hcm : c ∈ ps := List.mem_of_getElem? ec
          have hcs : c.size ≤ 1000 := by have := size_mem hcm; omega
          refine ⟨_, rfl, _, rfl, _, rfl, _, rfl, by show 1 ≤ sizeLine; decide, fun t4 ht4 => ?_⟩
          have s4 := same_new (o := .tup [.int (i : Nat)]) ht4
          refine cat_any (sqt_same (S3.trans s4) hb) (.inl (.inl upd_same)) (by rw [List.length_map]; exact Nat.le_trans (show pre.length + 1 ≤ 2000 by omega) (by decide)) fun t5 H5 s5 ht5 => ?_
          have s45 := s4.trans s5
          have hpre : SqT K H5 t5 ((pre ++ [((i : Nat) : Int)]).map V.int) := by rw [List.map_append]; exact ht5
          refine ⟨x2, t5, c, pre ++ [((i : Nat) : Int)], rfl, dp_same s45 _ _ g3, o3 c hcm, dep_mk.mp hdep c hcm, hcs, hpre, by rw [List.length_append, List.length_singleton]; omega, fun l2 ws H6 s6 nl2 hl2 hw => ?_⟩
          have s46 := s45.trans s6
          have hal := DpAll.len ha3
          have hwl := DpAll.len hw
          rw [List.length_map, List.length_map] at hal hwl
          have hk1 : (c.paths).length ≤ 1000 := by
            rw [paths_len]
            omega
          have hk2 := Nat.le_of_eq (pathsL_len 0 (ps.take i))
          have hk3 := sizes_take ps i
          have hk4 : ([[]] ++ Tr.pathsL 0 (ps.take i) : List (List Int)).length ≤ 1 + (Tr.pathsL 0 (ps.take i)).length := by
            rw [List.length_append]
            simp
          refine ⟨F, l2, acc, ws, rfl, rfl, s46 _ _ hF3, hl2, Nat.le_trans (show acc.length + ws.length ≤ 5000 by omega) (by decide), fun F2 hF2' => ?_⟩
          have s7 := same_new (o := .lst (acc ++ ws)) hF2'
          refine ⟨F2, _, _, _, rfl, (S3.trans s46).trans s7, (S13.trans s46).trans s7, free_of (S3.trans s46) hF2', upd_same, ?_⟩
          have et : ps.take (i + 1) = ps.take i ++ [c] := by rw [List.take_add_one, ec]; rfl
          have hil : (ps.take i).length = i := by
            have := (List.getElem?_eq_some_iff.mp ec).1
            rw [List.length_take]
            omega
          rw [et, pathsL_snoc, hil, Nat.zero_add, ← List.append_assoc, List.map_append (l₁ := [[]] ++ Tr.pathsL 0 (ps.take i)), List.map_append]
          refine DpAll.app (dps_same (s46.trans s7) _ _ ha3) ?_
          have h8 := dps_same s7 _ _ hw
          have e8 : ((c.paths).map fun p => (pre ++ [((i : Nat) : Int)]) ++ p) = ((c.paths).map fun p => ((i : Nat) : Int) :: p).map fun p => pre ++ p := by
            rw [List.map_map]
            refine List.map_congr_left fun p _ => ?_
            show (pre ++ [((i : Nat) : Int)]) ++ p = pre ++ (((i : Nat) : Int) :: p)
            rw [List.append_assoc]
            rfl
          rw [e8] at h8
          exact h8
        · rintro σ H2 ⟨F, acc, v2, v3, rfl, s2, s12, nF, hF2, ha2⟩
          rw [List.take_of_length_le (by omega)] at ha2
          exact ⟨_, rfl, k F acc _ s2 nF hF2 ha2⟩
end
end K26

namespace K26
open PySem L2 Cm
def spLeaf (K : PySem.W.Frag) : Sp := fun vs H Q _ => ∃ (h c nm : Addr) (names : List Str), vs = [.ref h, .ref nm] ∧ Hand H h c ∧ SqT K H nm (names.map V.str) ∧ names ≠ [] ∧ names.length ≤ 10 ∧ (∀ x ∈ names, sok x) ∧
  ∀ (v : V) (t : Tr) (H' : Hp), Kh h H H' → Hand H' h c → Dp K H' v t.enc → t.ok → t.dep ≤ 1 → t.size ≤ 1 → Q v H'
theorem ok_leaf {h : Hd} (o : hok h 0) : (Tr.mk h []).ok := ⟨o, Nat.zero_le _, trivial⟩
section
variable {P : Program} {w : World} {K : PySem.W.Frag} {mg : Str → Option Value} {base : Heap}
abbrev s_l_any_leaf : Stmt := top 17
abbrev N_l_any_leaf : List Str := ["_law_hand_here", "_law_names", "_law_pick_here", "_law_number"]
theorem sc_l_any_leaf : FnScope N_l_any_leaf ["_law_hand_here", "_law_names"] (defScope s_l_any_leaf) := ⟨rfl, rfl, rfl, by decide +kernel, rfl, by decide +kernel, by decide +kernel⟩
theorem ok_any_leaf (c_l_draw : Cl P w K mg base 2 "_law_draw" spDraw) (c_l_pick : Cl P w K mg base 3 "_law_pick" (spPick K)) (D : At K mg "_law_any_leaf" s_l_any_leaf ["_law_hand_here", "_law_names"]) :
    Cl P w K mg base 4 "_law_any_leaf" (spLeaf K) := by
  refine cl_of D sc_l_any_leaf (fun vs H Q E h => ?_) fun f cdv A outer s H vs Q E hr h => ?_
  · obtain ⟨h, c, nm, names, rfl, _⟩ := h
    rfl
  · obtain ⟨h, c, nm, names, rfl, hh, hn, hne, hnl, hso, k⟩ := h
    refine ⟨_, (pss_cons (ps_set (i := 2) sc_l_any_leaf.nd rfl (Or.inl rfl) (pe_c c_l_draw hr (by decide) (by rfl) (pa_cons (pv 0) (pa_cons pe_int pa_nil))))
      (pss_cons (ps_if (pt_cmpR op_lt (pv 2) pe_int (nomark _))
        (pss_one (ps_ret (pe_tup (pa_cons pe_str (pa_cons (pe_c c_l_pick hr (by decide) (by rfl) (pa_cons (pv 0) (pa_cons (pv 1) pa_nil))) pa_nil)))))
        pss_nil)
      (pss_cons (ps_if (pt_cmpR op_lt (pv 2) pe_int (nomark _))
        (pss_mid (ps_set (i := 3) sc_l_any_leaf.nd rfl (Or.inl rfl) (pe_ix ix_tup (pe_tup (pa_cons pe_int (pa_cons (pe_op op_pow pe_int pe_int) (pa_cons (pe_c c_l_draw hr (by decide) (by rfl) (pa_cons (pv 0) (pa_cons pe_int pa_nil))) (pa_cons (pe_c c_l_draw hr (by decide) (by rfl) (pa_cons (pv 0) (pa_cons (pe_op op_add (pe_op op_pow pe_int pe_int) pe_int) pa_nil))) pa_nil))))) (pe_c c_l_draw hr (by decide) (by rfl) (pa_cons (pv 0) (pa_cons pe_int pa_nil))) (fun _ _ => rfl)))
        (pss_one (ps_ret (pe_tup (pa_cons pe_str (pa_cons (pe_ifExp (pt_cmpR op_eq (pe_c c_l_draw hr (by decide) (by rfl) (pa_cons (pv 0) (pa_cons pe_int pa_nil))) pe_int (nomark _)) (pe_un un_neg (pv 3)) (pv 3)) pa_nil))))))
        pss_nil)
      (pss_one (ps_ret (pe_ix ix_tup (pe_ix ix_tup (pe_tup (pa_cons (pe_tup (pa_cons (pe_tup (pa_cons pe_str pa_nil)) (pa_cons (pe_tup (pa_cons pe_str pa_nil)) (pa_cons (pe_tup (pa_cons pe_str pa_nil)) pa_nil)))) (pa_cons (pe_tup (pa_cons (pe_tup (pa_cons pe_str pa_nil)) (pa_cons (pe_tup (pa_cons pe_str pa_nil)) (pa_cons (pe_tup (pa_cons pe_str pa_nil)) pa_nil)))) pa_nil))) (pe_c c_l_draw hr (by decide) (by rfl) (pa_cons (pv 0) (pa_cons pe_int pa_nil))) (fun _ _ => rfl)) (pe_op op_sub (pv 2) pe_int) (fun _ _ => rfl))))))), ?_⟩
    refine ⟨_, rfl, h, c, _, rfl, hh, by decide, by decide, fun n H1 n0 n1 k1 hh1 => ?_⟩
    refine ⟨_, rfl, _, _, rfl, rfl, _, rfl, ?_⟩
    refine ite2 (fun _ => ?_) (fun q3 => ?_)
    · refine ⟨_, rfl, _, rfl, h, c, nm, _, rfl, hh1, .inr (k1.tup hn), ?_, by rw [List.length_map]; omega, fun v H2 hv k2 hh2 => ?_⟩
      · intro e
        exact hne (List.map_eq_nil_iff.mp e)
      obtain ⟨x, hx, rfl⟩ := List.mem_map.mp hv
      refine ⟨by show 2 ≤ sizeLine; decide, fun t ht => ?_⟩
      have s3 := same_new (o := .tup [.str "name", .str x]) ht
      exact k _ (.mk (.name x) []) _ ((k1.trans k2).trans (hh2.kh s3)) (hh2.same s3) (unview (ds := []) (h := .name x) (.inl (.inl upd_same)) rfl) (ok_leaf ⟨rfl, hso x hx⟩) (Nat.le_refl _) (Nat.le_refl _)
    refine ⟨_, rfl, _, _, rfl, rfl, _, rfl, ?_⟩
    refine ite2 (fun _ => ?_) (fun q6 => ?_)
    · refine ⟨fun σ' H' => ∃ m : Int, σ' = [some (.ref h), some (.ref nm), some (.int n), some (.int m)] ∧ Kh h H H' ∧ Hand H' h c, ?_, ?_⟩
      · refine ⟨_, _, rfl, rfl, ⟨by decide, by decide, by decide⟩, ?_⟩
        refine ⟨_, rfl, h, c, _, rfl, hh1, by decide, by decide, fun a2 H2 _ _ k2 hh2 => ?_⟩
        refine ⟨_, rfl, _, _, rfl, rfl, ⟨by decide, by decide, by decide⟩, _, _, rfl, rfl, h, c, _, rfl, hh2, by decide, by decide, fun a3 H3 _ _ k3 hh3 => ?_⟩
        refine ⟨by show 4 ≤ sizeLine; decide, fun t ht => ?_⟩
        have s4 := same_new (o := .tup [.int 0, .int ((10 : Int) ^ (9 : Int).toNat), .int a2, .int a3]) ht
        refine ⟨_, rfl, h, c, _, rfl, hh3.same s4, by decide, by decide, fun j H5 j0 j1 k5 hh5 => ?_⟩
        have hall : ∃ m : Int, atI [V.int 0, V.int ((10 : Int) ^ (9 : Int).toNat), .int a2, .int a3] j = some (.int m) := by
          have : j = 0 ∨ j = 1 ∨ j = 2 ∨ j = 3 := by omega
          rcases this with rfl | rfl | rfl | rfl
          · exact ⟨_, atI_nat (j := 0) rfl⟩
          · exact ⟨_, atI_nat (j := 1) rfl⟩
          · exact ⟨_, atI_nat (j := 2) rfl⟩
          · exact ⟨_, atI_nat (j := 3) rfl⟩
        obtain ⟨m, em⟩ := hall
        exact ⟨t, _, _, _, rfl, rfl, k5.tup (.inl (.inl upd_same)), em, m, rfl, (((k1.trans k2).trans k3).trans (hh3.kh s4)).trans k5, hh5⟩
      · rintro σ' H2 ⟨m, rfl, k2, hh2⟩
        refine ⟨_, rfl, h, c, _, rfl, hh2, by decide, by decide, fun j H3 _ _ k3 hh3 => ?_⟩
        refine ⟨rfl, _, rfl, ?_⟩
        have fin : ∀ i : Int, 2 ≤ sizeLine ∧ ∀ p, H3 p = none → Q (.ref p) (upd H3 p (.tup [.str "number", .int i])) := fun i => ⟨by decide, fun t ht => (by
          have s4 := same_new (o := .tup [.str "number", .int i]) ht
          exact k _ (.mk (.num i) []) _ ((k2.trans k3).trans (hh3.kh s4)) (hh3.same s4) (unview (ds := []) (h := .num i) (.inl (.inl upd_same)) rfl) (ok_leaf rfl) (Nat.le_refl _) (Nat.le_refl _))⟩
        refine ite2 (fun _ => ?_) (fun _ => ?_)
        · exact ⟨_, rfl, _, rfl, fin _⟩
        · exact ⟨_, rfl, fin _⟩
    · have c3 : (n = 6 ∨ n = 7 ∨ n = 8) := by
        have : ¬ n < 6 := fun z => q6 (decide_eq_true z)
        omega
      refine ⟨by show 1 ≤ sizeLine; decide, fun t1 ht1 => ⟨by show 1 ≤ sizeLine; decide, fun t2 ht2 => ⟨by show 1 ≤ sizeLine; decide, fun t3 ht3 => ⟨by show 3 ≤ sizeLine; decide, fun t4 ht4 =>
        ⟨by show 1 ≤ sizeLine; decide, fun t5 ht5 => ⟨by show 1 ≤ sizeLine; decide, fun t6 ht6 => ⟨by show 1 ≤ sizeLine; decide, fun t7 ht7 => ⟨by show 3 ≤ sizeLine; decide, fun t8 ht8 => ⟨by show 2 ≤ sizeLine; decide, fun t9 ht9 => ?_⟩⟩⟩⟩⟩⟩⟩⟩⟩
      have u1 := same_new (o := .tup [.str "true"]) ht1
      have u2 := same_new (o := .tup [.str "false"]) ht2
      have u3 := same_new (o := .tup [.str "none"]) ht3
      have u4 := same_new (o := .tup [.ref t1, .ref t2, .ref t3]) ht4
      have u5 := same_new (o := .tup [.str "ask"]) ht5
      have u6 := same_new (o := .tup [.str "none"]) ht6
      have u7 := same_new (o := .tup [.str "true"]) ht7
      have u8 := same_new (o := .tup [.ref t5, .ref t6, .ref t7]) ht8
      have u9 := same_new (o := .tup [.ref t4, .ref t8]) ht9
      have v8 := u9
      have v7 := u8.trans v8
      have v6 := u7.trans v7
      have v5 := u6.trans v6
      have v4 := u5.trans v5
      have v3 := u4.trans v4
      have v2 := u3.trans v3
      have v1 := u2.trans v2
      have S9 := u1.trans v1
      have e1 := v1 _ _ upd_same
      have e2 := v2 _ _ upd_same
      have e3 := v3 _ _ upd_same
      have e4 := v4 _ _ upd_same
      have e5 := v5 _ _ upd_same
      have e6 := v6 _ _ upd_same
      have e7 := v7 _ _ upd_same
      have e8 := v8 _ _ upd_same
      have hh9 := hh1.same S9
      have k9 := k1.trans (hh1.kh S9)
      have e9 : (upd _ t9 (.tup [.ref t4, .ref t8])) t9 = some (.tup [.ref t4, .ref t8]) := upd_same (H := upd (upd (upd (upd (upd (upd (upd (upd H1 t1 (.tup [.str "true"])) t2 (.tup [.str "false"])) t3 (.tup [.str "none"])) t4 (.tup [.ref t1, .ref t2, .ref t3])) t5 (.tup [.str "ask"])) t6 (.tup [.str "none"])) t7 (.tup [.str "true"])) t8 (.tup [.ref t5, .ref t6, .ref t7]))
      clear u1 u2 u3 u4 u5 u6 u7 u8 u9 v1 v2 v3 v4 v5 v6 v7 v8 S9
      generalize upd (upd (upd (upd (upd (upd (upd (upd (upd H1 t1 (.tup [.str "true"])) t2 (.tup [.str "false"])) t3 (.tup [.str "none"])) t4 (.tup [.ref t1, .ref t2, .ref t3])) t5 (.tup [.str "ask"])) t6 (.tup [.str "none"])) t7 (.tup [.str "true"])) t8 (.tup [.ref t5, .ref t6, .ref t7])) t9 (.tup [.ref t4, .ref t8]) = H9 at *
      refine ⟨_, rfl, h, c, _, rfl, hh9, by decide, by decide, fun j HA j0 j1 kA hhA => ?_⟩
      have tp : ∀ {a : Addr} {xs : List V}, H9 a = some (.tup xs) → SqT K HA a xs := fun e => kA.tup (.inl (.inl e))
      have fin : ∀ (a : Addr) (w : Str), SqT K HA a [.str w] → w ∈ litW → Q (.ref a) HA := fun a w hs hw =>
        k _ (.mk (.lit w) []) _ (k9.trans kA) hhA (unview (ds := []) (h := .lit w) hs rfl) (ok_leaf ⟨rfl, hw⟩) (Nat.le_refl _) (Nat.le_refl _)
      have hj : j = 0 ∨ j = 1 := by omega
      rcases hj with rfl | rfl
      · refine ⟨t9, _, _, _, rfl, rfl, tp e9, atI_nat (j := 0) rfl, _, rfl, _, _, rfl, rfl, ?_⟩
        rcases c3 with rfl | rfl | rfl
        · exact ⟨t4, _, _, _, rfl, rfl, tp e4, atI_nat (j := 0) rfl, fin t1 _ (tp e1) (by decide +kernel)⟩
        · exact ⟨t4, _, _, _, rfl, rfl, tp e4, atI_nat (j := 1) rfl, fin t2 _ (tp e2) (by decide +kernel)⟩
        · exact ⟨t4, _, _, _, rfl, rfl, tp e4, atI_nat (j := 2) rfl, fin t3 _ (tp e3) (by decide +kernel)⟩
      · refine ⟨t9, _, _, _, rfl, rfl, tp e9, atI_nat (j := 1) rfl, _, rfl, _, _, rfl, rfl, ?_⟩
        rcases c3 with rfl | rfl | rfl
        · exact ⟨t8, _, _, _, rfl, rfl, tp e8, atI_nat (j := 0) rfl, fin t5 _ (tp e5) (by decide +kernel)⟩
        · exact ⟨t8, _, _, _, rfl, rfl, tp e8, atI_nat (j := 1) rfl, fin t6 _ (tp e6) (by decide +kernel)⟩
        · exact ⟨t8, _, _, _, rfl, rfl, tp e8, atI_nat (j := 2) rfl, fin t7 _ (tp e7) (by decide +kernel)⟩
end
end K26

namespace K26
open PySem L2 Cm
def spNames (K : PySem.W.Frag) : Sp := fun vs H Q _ => ∃ (h c nm : Addr) (names : List Str) (most : Int), vs = [.ref h, .ref nm, .int most] ∧ Hand H h c ∧ SqT K H nm (names.map V.str) ∧ names.length ≤ 10 ∧ 0 ≤ most ∧ most ≤ 20 ∧
  ∀ (r : Addr) (xs : List Str) (H' : Hp), Kh h H H' → Hand H' h c → SqT K H' r (xs.map V.str) → (xs.length : Int) ≤ most → (∀ x ∈ xs, x ∈ names) → Q (.ref r) H'
theorem map_erase {α β : Type} (f : α → β) : ∀ (xs : List α) (j : Nat), (xs.map f).eraseIdx j = (xs.eraseIdx j).map f
  | [], _ => rfl
  | _ :: _, 0 => rfl
  | x :: xs, j + 1 => by
    show f x :: (xs.map f).eraseIdx j = f x :: (xs.eraseIdx j).map f
    rw [map_erase f xs j]
theorem all_strs {K : PySem.W.Frag} {H : Hp} {P : Str → Prop} : ∀ {acc : List V} {ds : List PyData}, DpAll K H acc ds → (∀ d ∈ ds, ∃ x : Str, d = .str x ∧ P x) → ∃ xs : List Str, acc = xs.map V.str ∧ ds = xs.map PyData.str ∧ ∀ x ∈ xs, P x
  | _, _, .nil, _ => ⟨[], rfl, rfl, fun _ h => by cases h⟩
  | _, _, .cons a t, g => by
    obtain ⟨b, rfl, hb⟩ := g _ List.mem_cons_self
    obtain ⟨xs, rfl, rfl, hf⟩ := all_strs t fun d hd => g d (List.mem_cons_of_mem _ hd)
    cases a
    exact ⟨b :: xs, rfl, rfl, fun x hx => by
      rcases List.mem_cons.mp hx with rfl | hx
      · exact hb
      · exact hf x hx⟩
section
variable {P : Program} {w : World} {K : PySem.W.Frag} {mg : Str → Option Value} {base : Heap}
abbrev s_l_any_names : Stmt := top 18
abbrev N_l_any_names : List Str := ["_law_hand_here", "_law_names", "_law_most", "_law_left", "_law_name", "_law_many", "_law_k"]
theorem sc_l_any_names : FnScope N_l_any_names ["_law_hand_here", "_law_names", "_law_most"] (defScope s_l_any_names) := ⟨rfl, rfl, rfl, by decide +kernel, rfl, by decide +kernel, by decide +kernel⟩
theorem ok_any_names (T : Txt mg) (c_l_draw : Cl P w K mg base 2 "_law_draw" spDraw) (D : At K mg "_law_any_names" s_l_any_names ["_law_hand_here", "_law_names", "_law_most"]) : Cl P w K mg base 3 "_law_any_names" (spNames K) := by
  refine cl_of D sc_l_any_names (fun vs H Q E h => ?_) fun f cdv A outer s H vs Q E hr h => ?_
  · obtain ⟨h, c, nm, names, most, rfl, _⟩ := h
    rfl
  · obtain ⟨h, c, nm, names, most, rfl, hh, hn, hnl, hm0, hm1, k⟩ := h
    refine ⟨_, (pss_cons (ps_set (i := 3) sc_l_any_names.nd rfl (Or.inr rfl) (pe_lst pa_nil))
      (pss_cons (ps_for PassesOwn.never rfl (pi_tup (pv 1)) (pg_name (i := 4) sc_l_any_names.nd rfl (Or.inl rfl))
        (pss_one (ps_if (pt_cmpR op_notIn_seq (pv 4) (pv 3) (by rfl))
          (pss_one (ps_expr (pe_bm PySem.F.plainAttrs_list PySem.F.slot_list_append PySem.F.type_list_append mt_append (pv 3) (pa_cons (pv 4) pa_nil))))
          pss_nil)))
      (pss_cons (ps_set (i := 5) sc_l_any_names.nd rfl (Or.inl rfl) (pe_callB (call_min2 rfl) (by rfl) T.min (by decide +kernel) (pa_cons (pe_c c_l_draw hr (by decide) (by rfl) (pa_cons (pv 0) (pa_cons (pe_op op_add (pv 2) pe_int) pa_nil))) (pa_cons (pe_callB call_len_seq (by rfl) T.len (by decide +kernel) (pa_cons (pv 3) pa_nil)) pa_nil))))
      (pss_one (ps_ret (pe_tupleOf (by rfl) T.tuple (pe_lc (own := [("_law_k", 6)]) rfl sc_l_any_names.nd (pi_range1 (by rfl) T.range (pa_cons (pv 5) pa_nil)) (blkOk_by (N := N_l_any_names) (sc := defScope s_l_any_names) (by decide +kernel))
      (fun _ _ _ _ _ => (pg_name (i := 6) sc_l_any_names.nd rfl (Or.inl rfl)))
      (fun _ _ _ _ _ => pts_nil)
      (fun _ _ _ _ _ => (ke_bm (K := K) PySem.F.plainAttrs_list PySem.F.slot_list_pop PySem.F.type_list_pop mt_popAt (pv 3) (pa_cons (pe_c c_l_draw hr (by decide) (by rfl) (pa_cons (pv 0) (pa_cons (pe_callB (kc_len (K := K)) (by rfl) T.len (by decide +kernel) (pa_cons (pv 3) pa_nil)) pa_nil))) pa_nil)))))))))), ?_⟩
    refine ⟨by show 0 ≤ sizeLine; decide, fun L hL => ?_⟩
    have s0 := same_new (o := .lst []) hL
    have hh0 := hh.same s0
    have nL := hh.there hL
    refine ⟨_, rfl, nm, rfl, ⟨_, sqt_same s0 hn⟩, ?_⟩
    refine for_it (walk_tup (xs := names.map V.str)) (fun i σ H' => ∃ (ls : List Str) (v4 : Option V), σ = [some (.ref h), some (.ref nm), some (.int most), some (.ref L), v4, none, none] ∧ Same H H' ∧ H' L = some (.lst (ls.map V.str)) ∧ (∀ x ∈ ls, x ∈ names) ∧ ls.length ≤ i)
      ⟨[], none, rfl, s0, upd_same, fun _ h => (by cases h), Nat.le_refl _⟩ (fun i σ H' _ z => ?_) ?_ ?_
    · obtain ⟨_, _, _, z, _⟩ := z
      exact sqt_same z hn
    · rintro i x σ H1 H2 hi ⟨ls, v4, rfl, s1, hL1, hls, hll⟩ ⟨rfl, e2⟩
      obtain ⟨y, ey, rfl⟩ := map_at e2
      rw [List.length_map] at hi
      refine ⟨_, rfl, _, rfl, L, _, rfl, .inl (.inl (.inl hL1)), rfl, flat_strV ls, _, rfl, ?_⟩
      refine ite2 (fun _ => ?_) (fun _ => ⟨ls, _, rfl, s1, hL1, hls, by omega⟩)
      refine ⟨_, rfl, .inl ⟨rfl, _, .inl (.inl hL1)⟩, _, rfl, L, _, _, rfl, rfl, hL1, ?_, ls ++ [y], _, rfl, same_put s1 hL, ?_, ?_, ?_⟩
      · rw [List.length_map]
        exact Nat.lt_of_le_of_lt (show ls.length ≤ 10 by omega) (by decide)
      · rw [upd_same, List.map_append]
        rfl
      · intro x hx
        rcases List.mem_append.mp hx with hx | hx
        · exact hls x hx
        · cases List.mem_singleton.mp hx
          exact List.mem_of_getElem? ey
      · rw [List.length_append]
        exact Nat.succ_le_succ hll
    · rintro σ H1 ⟨ls, v4, rfl, s1, hL1, hls, hll⟩
      rw [List.length_map] at hll
      have hh1 := hh.same s1
      refine ⟨_, rfl, _, rfl, _, _, rfl, rfl, h, c, _, rfl, hh1, by omega, Int.lt_of_le_of_lt (show most + 1 ≤ 21 by omega) (by decide), fun m H2 m0 m1 k2 hh2 => ?_⟩
      have hL2 : H2 L = some (.lst (ls.map V.str)) := k2.st _ _ nL.1 hL1
      refine ⟨_, rfl, L, _, rfl, .inl (.inl (.inl hL2)), _, _, rfl, ?_⟩
      rw [List.length_map]
      show gName 5 (V.int (if ((ls.length : Nat) : Int) < m then ((ls.length : Nat) : Int) else m)) _ _ _
      have hmm : ∃ mm : Nat, (if ((ls.length : Nat) : Int) < m then ((ls.length : Nat) : Int) else m) = (mm : Int) ∧ mm ≤ ls.length ∧ (mm : Int) ≤ most := by
        split
        · exact ⟨ls.length, rfl, Nat.le_refl _, by omega⟩
        · exact ⟨m.toNat, by omega, by omega, by omega⟩
      obtain ⟨mm, em, h1, h2⟩ := hmm
      rw [em]
      refine ⟨_, rfl, _, rfl, by omega, by omega, fun D hD => ?_⟩
      have nD := hh2.there hD
      have nDL : L ≠ D := ne_of_none hL2 hD
      have K2 : Kp (fun a => a = h ∨ a = L) H2 H2 := Kp.refl fun a ha => by
        rcases ha with rfl | rfl
        · exact hh2.lst
        · exact ⟨_, hL2⟩
      refine lc_drawJ (K := K) (M := fun a => a = h ∨ a = L) (walk_range (lo := 0) (n := mm)) (fun i ds H' => Hand H' h c ∧ ∃ ls' : List Str, H' L = some (.lst (ls'.map V.str)) ∧ (∀ x ∈ ls', x ∈ names) ∧ ls'.length + i = ls.length ∧ ds.length = i ∧ ∀ d ∈ ds, ∃ x : Str, d = .str x ∧ x ∈ names)
        K2.l1 ⟨hh2.same (same_new hD), ls, (same_new hD) _ _ hL2, hls, rfl, rfl, fun _ h => (by cases h)⟩ (fun i ds H' ys kk j => ?_) hD (by omega) (fun _ _ _ _ _ => trivial) (fun i ds H' j => ?_) ?_ ?_
      · obtain ⟨a, ls', b1, b2, b3, b4, b5⟩ := j
        exact ⟨a.puts nD.1 nD.2, ls', by rw [upd_ne nDL]; exact b1, b2, b3, b4, b5⟩
      · obtain ⟨_, _, _, _, _, _, b5⟩ := j
        exact flatDs_of _ fun d hd => by
          obtain ⟨x, rfl, _⟩ := b5 d hd
          rfl
      · rintro i x ds H3 H4 hi k3 ⟨hh3, ls', hL3, b2, b3, b4, b5⟩ ⟨rfl, rfl⟩ Q1 Q0 q1 q0
        refine ⟨rfl, ?_⟩
        have hpos : 0 < ls'.length := by omega
        refine ⟨_, rfl, .inl ⟨rfl, _, .inl (.inl hL3)⟩, _, rfl, _, rfl, L, _, rfl, .inl (.inl (.inl hL3)), h, c, _, rfl, hh3, by rw [List.length_map]; omega, ?_, fun j H5 j0 j1 k5 hh5 => ?_⟩
        · rw [List.length_map]
          exact Int.lt_of_le_of_lt (show (ls'.length : Int) ≤ 10 by omega) (by decide)
        rw [List.length_map] at j1
        obtain ⟨jj, rfl⟩ : ∃ jj : Nat, j = (jj : Int) := ⟨j.toNat, by omega⟩
        have hjj : jj < ls'.length := by omega
        have hL5 : H5 L = some (.lst (ls'.map V.str)) := k5.st _ _ nL.1 hL3
        refine ⟨L, _, _, jj, .str ls'[jj], rfl, rfl, hL5, by omega, by omega, ?_, ?_, ?_⟩
        · rw [List.length_map]
          exact (ixN_seq (ixn_at hjj)).1
        · rw [List.getElem?_map, List.getElem?_eq_getElem hjj]
          rfl
        have kp : Kp (fun a => a = h ∨ a = L) H4 (upd H5 L (.lst ((ls'.map V.str).eraseIdx jj))) := by
          have w1 : Kp (fun a => a = h ∨ a = L) H4 H5 := k5.wider (fun a ha => .inl ha) fun a ha => by
            rcases ha with rfl | rfl
            · exact hh3.lst
            · exact ⟨_, hL3⟩
          exact w1.trans (Kp.put w1.l2 (.inr rfl))
        refine q1 _ _ (.str ls'[jj]) kp ⟨hh5.puts nL.1 nL.2, ls'.eraseIdx jj, ?_, fun x hx => b2 x (List.mem_of_mem_eraseIdx hx), ?_, ?_, ?_⟩ (.str _)
        · rw [upd_same, map_erase]
        · rw [List.length_eraseIdx_of_lt hjj]
          omega
        · rw [List.length_append, List.length_singleton, b4]
        · intro d hd
          rcases List.mem_append.mp hd with hd | hd
          · exact b5 d hd
          · cases List.mem_singleton.mp hd
            exact ⟨_, rfl, b2 _ (List.getElem_mem hjj)⟩
      · rintro H3 acc ds k3 ⟨hh3, ls', hL3, b2, b3, b4, b5⟩ hacc ha
        obtain ⟨xs, rfl, rfl, hx⟩ := all_strs ha b5
        refine .inl ⟨D, _, rfl, .inl (.inl hacc), fun t ht => ?_⟩
        have kall : Kh h H H3 := by
          have k02 : Kh h H H2 := (hh.kh s1).trans k2
          refine ⟨fun b o nb e => ?_, k02.l1, fun b hb => by subst hb; exact hh3.lst⟩
          have nbL : b ≠ L := ne_of_none e hL
          refine k3.st _ _ (fun z => ?_) (k02.st _ _ nb e)
          rcases z with z | z
          · exact nb z
          · exact nbL z
        refine k t xs _ (kall.trans (hh3.kh (same_new ht))) (hh3.same (same_new ht)) (.inl (.inl upd_same)) ?_ hx
        rw [List.length_map] at b4
        omega
end
end K26

namespace K26
open PySem L2 Cm
/-- a tree is drawn, less than n deep -/
def spAny (K : PySem.W.Frag) (n : Nat) : Sp := fun vs H Q _ => ∃ (h c nm r : Addr) (names : List Str) (k deep : Nat), vs = [.ref h, .int (deep : Nat), .ref nm, .ref r] ∧ Gn H h c r k ∧ SqT K H nm (names.map V.str) ∧ names ≠ [] ∧ names.length ≤ 10 ∧ (∀ x ∈ names, sok x) ∧ deep < n ∧
  ∀ (v : V) (t : Tr) (k' : Nat) (H' : Hp), Kr h r H H' → Gn H' h c r k' → Dp K H' v t.enc → t.ok → t.dep ≤ 1 + 2 * deep → t.size + 12 * k' ≤ 1 + 12 * k → Q v H'
def spFun (K : PySem.W.Frag) (n : Nat) : Sp := fun vs H Q _ => ∃ (h c nm r : Addr) (names : List Str) (k deep : Nat) (most : Int), vs = [.ref h, .int ((deep + 1 : Nat) : Int), .ref nm, .ref r, .int most] ∧ Gn H h c r k ∧ SqT K H nm (names.map V.str) ∧ names ≠ [] ∧ names.length ≤ 10 ∧ (∀ x ∈ names, sok x) ∧ deep < n ∧ 0 ≤ most ∧ most ≤ 20 ∧
  ∀ (v : V) (t : Tr) (k' : Nat) (H' : Hp), Kr h r H H' → Gn H' h c r k' → Dp K H' v t.enc → t.ok → t.dep ≤ 2 + 2 * deep → t.size + 12 * k' ≤ 2 + 12 * k → Q v H'
theorem dec1 (d : Nat) : ((d + 1 : Nat) : Int) - 1 = ((d : Nat) : Int) := by omega
theorem iteEq {x y : Str} {A B : Prop} (h : x = y) (a : A) : if decide (V.str x = V.str y) = true then A else B := by
  rw [decS, decide_eq_true h]
  exact iteT a
theorem iteNe {x y : Str} {A B : Prop} (h : ¬ x = y) (b : B) : if decide (V.str x = V.str y) = true then A else B := by
  rw [decS, decide_eq_false h]
  exact iteF b
theorem iteIn {x : Str} {ws : List Str} {A B : Prop} (h : x ∈ ws) (a : A) : if inV (.str x) (ws.map V.str) = true then A else B := by
  rw [in_words, decide_eq_true h]
  exact iteT a
theorem iteNi {x : Str} {ws : List Str} {A B : Prop} (h : ¬ x ∈ ws) (b : B) : if inV (.str x) (ws.map V.str) = true then A else B := by
  rw [in_words, decide_eq_false h]
  exact iteF b
theorem zip_end {xs : List Str} {ts : List Tr} {t : Tr} (h : ts.length = xs.length) : (xs.zip (Tr.encL (ts ++ [t]))).map rowD = rowsL xs ts ∧ (Tr.encL (ts ++ [t])).drop xs.length = [t.enc] := by
  rw [encL_snoc]
  have hl : (Tr.encL ts).length = xs.length := by rw [encL_len, h]
  refine ⟨?_, ?_⟩
  · unfold rowsL
    congr 1
    have e : xs = xs ++ [] := (List.append_nil xs).symm
    conv => lhs; rw [e]
    rw [List.zip_append hl.symm]
    simp
  · rw [List.drop_append, hl, Nat.sub_self, List.drop_of_length_le (Nat.le_of_eq hl)]
    rfl
section
variable {P : Program} {w : World} {K : PySem.W.Frag} {mg : Str → Option Value} {base : Heap}
abbrev s_l_any_fun : Stmt := top 19
abbrev N_l_any_fun : List Str := ["_law_hand_here", "_law_deep", "_law_names", "_law_room", "_law_most", "_law_handed"]
theorem sc_l_any_fun : FnScope N_l_any_fun ["_law_hand_here", "_law_deep", "_law_names", "_law_room", "_law_most"] (defScope s_l_any_fun) := ⟨rfl, rfl, rfl, by decide +kernel, rfl, by decide +kernel, by decide +kernel⟩
theorem ok_any_fun {n lv : Nat} (hlv : 3 ≤ lv) (c_l_any_names : Cl P w K mg base 3 "_law_any_names" (spNames K)) (c_l_any : Cl P w K mg base lv "_law_any" (spAny K n)) (D : At K mg "_law_any_fun" s_l_any_fun ["_law_hand_here", "_law_deep", "_law_names", "_law_room", "_law_most"]) :
    Cl P w K mg base (lv + 1) "_law_any_fun" (spFun K n) := by
  refine cl_of D sc_l_any_fun (fun vs H Q E h => ?_) fun f cdv A outer s H vs Q E hr h => ?_
  · obtain ⟨h, c, nm, r, names, k, deep, most, rfl, _⟩ := h
    rfl
  · obtain ⟨h, c, nm, r, names, k, deep, most, rfl, x, hn, hne, hnl, hso, hdn, hm0, hm1, q⟩ := h
    refine ⟨_, (pss_cons (ps_set (i := 5) sc_l_any_fun.nd rfl (Or.inl rfl) (pe_c c_l_any_names hr hlv (by rfl) (pa_cons (pv 0) (pa_cons (pv 2) (pa_cons (pv 4) pa_nil)))))
      (pss_one (ps_ret (pe_tup (pa_cons pe_str (pa_cons (pv 5) (pa_cons (pe_c c_l_any hr (Nat.le_refl _) (by rfl) (pa_cons (pv 0) (pa_cons (pe_op op_sub (pv 1) pe_int) (pa_cons (pv 2) (pa_cons (pv 3) pa_nil))))) pa_nil))))))), ?_⟩
    refine ⟨_, rfl, _, rfl, _, rfl, h, c, nm, names, most, rfl, x.hand, hn, hnl, hm0, hm1, fun rx xs H1 kh hh1 hrx hxl hxs => ?_⟩
    obtain ⟨x1, kr1⟩ := x.draw kh hh1
    refine ⟨_, rfl, _, rfl, _, rfl, _, _, rfl, rfl, _, rfl, _, rfl, h, c, nm, r, names, k, deep, ?_, x1, kr1.tup hn, hne, hnl, hso, hdn, fun v t k2 H2 kr2 x2 hv ok dp sz => ?_⟩
    · show [V.ref h, V.int (((deep + 1 : Nat) : Int) - 1), V.ref nm, V.ref r] = _
      rw [dec1]
    refine ⟨by show 3 ≤ sizeLine; decide, fun tt ht => ?_⟩
    have s3 := same_new (o := .tup [.str "fn", .ref rx, v]) ht
    obtain ⟨x3, kr3⟩ := x2.same s3
    refine q _ (.mk (.fn xs) [t]) k2 _ ((kr1.trans kr2).trans kr3) x3 ?_ ?_ ?_ ?_
    · exact unview (h := .fn xs) (ds := [t.enc]) (.inl (.inl upd_same)) ⟨rx, [v], rfl, sqt_same s3 (kr2.tup hrx), .cons (dp_same s3 _ _ hv) .nil⟩
    · exact ⟨⟨rfl, by omega, fun y hy => hso y (hxs y hy)⟩, by show 1 ≤ 11; decide, ok, trivial⟩
    · show max t.dep 0 + 1 ≤ _
      omega
    · show t.size + 0 + 1 + 12 * k2 ≤ _
      omega
def genW : List Str := ["fn", "let", "rec", "set", "if", "do", "call", "op", "op", "keep", "once", "take", "mark", "wind", "show", "call"]
def opW : List Str := ["+", "-", "*", "quot", "rem", "<", "=", "same?", "pair", "left!", "right!", "left", "right", "pair?", "none?", "rest?", "fun?"]
def lastW : List Str := ["if", "do", "mark", "wind", "show"]
theorem genW_cases : ∀ w ∈ genW, w = "fn" ∨ w = "let" ∨ w = "rec" ∨ w ∈ oneW ∨ w = "op" ∨ w = "call" ∨ w ∈ lastW := by decide +kernel
theorem mem_str {ws : List Str} {v : V} (h : v ∈ ws.map V.str) : ∃ w, w ∈ ws ∧ v = .str w := by
  obtain ⟨w, hw, rfl⟩ := List.mem_map.mp h
  exact ⟨w, hw, rfl⟩
abbrev manyK (m : Nat) : List (Key × V) := [(Sum.inr "if", V.int 3), (Sum.inr "do", V.int (m : Nat)), (Sum.inr "mark", V.int 1), (Sum.inr "wind", V.int 3), (Sum.inr "show", V.int 1)]
theorem many_at {m : Nat} (hm : m ≤ 10) : ∀ y ∈ lastW, ∃ m2 : Nat, m2 ≤ 10 ∧ valV (mergeK [] (manyK m)) (Sum.inr y) = some (.int (m2 : Nat)) := by
  intro y hy
  simp only [lastW, List.mem_cons, List.not_mem_nil, or_false] at hy
  rcases hy with rfl | rfl | rfl | rfl | rfl
  · exact ⟨3, by decide, rfl⟩
  · exact ⟨m, hm, rfl⟩
  · exact ⟨1, by decide, rfl⟩
  · exact ⟨3, by decide, rfl⟩
  · exact ⟨1, by decide, rfl⟩
abbrev s_l_any : Stmt := top 20
abbrev N_l_any : List Str := ["_law_hand_here", "_law_deep", "_law_names", "_law_room", "_law_word", "_law_bound", "_law_rows", "_law_name", "_law_op", "_law_many", "_law_k", "_law_called", "_law_inner"]
theorem sc_l_any : FnScope N_l_any ["_law_hand_here", "_law_deep", "_law_names", "_law_room"] (defScope s_l_any) := ⟨rfl, rfl, rfl, by decide +kernel, rfl, by decide +kernel, by decide +kernel⟩
theorem ok_any (T : Txt mg) (c_l_draw : Cl P w K mg base 2 "_law_draw" spDraw) (c_l_pick : Cl P w K mg base 3 "_law_pick" (spPick K)) (c_l_any_leaf : Cl P w K mg base 4 "_law_any_leaf" (spLeaf K)) (c_l_any_names : Cl P w K mg base 3 "_law_any_names" (spNames K))
    (DF : At K mg "_law_any_fun" s_l_any_fun ["_law_hand_here", "_law_deep", "_law_names", "_law_room", "_law_most"]) (D : At K mg "_law_any" s_l_any ["_law_hand_here", "_law_deep", "_law_names", "_law_room"]) :
    ∀ n, Cl P w K mg base (2 * n + 5) "_law_any" (spAny K n) := by
  intro n
  induction n with
  | zero =>
    refine cl_of D sc_l_any (fun vs H Q E h => ?_) fun f cdv A outer s H vs Q E hr h => ?_
    · obtain ⟨h, c, nm, r, names, k, deep, rfl, _⟩ := h
      rfl
    · obtain ⟨h, c, nm, r, names, k, deep, _, _, _, _, _, _, z, _⟩ := h
      exact absurd z (Nat.not_lt_zero _)
  | succ n ih =>
    have c_l_any_fun := ok_any_fun (by omega) c_l_any_names ih DF
    refine cl_of (k := 2 * n + 6) D sc_l_any (fun vs H Q E h => ?_) fun f cdv A outer s H vs Q E hr h => ?_
    · obtain ⟨h, c, nm, r, names, k, deep, rfl, _⟩ := h
      rfl
    · obtain ⟨h, c, nm, r, names, k, deep, rfl, x, hn, hne, hnl, hso, hdn, q⟩ := h
      have hu := hu_of hr
      refine ⟨_, (pss_cons (ps_if (PW.pt (pw_or (pt_cmpR op_le (pv 1) pe_int (nomark _)) (pw_or1 (pt_cmpR op_le (pe_ix ix_list (pv 3) pe_int (fun _ _ => rfl)) pe_int (nomark _)))))
        (pss_one (ps_ret (pe_c c_l_any_leaf hr (by omega) (by rfl) (pa_cons (pv 0) (pa_cons (pv 2) pa_nil)))))
        pss_nil)
      (pss_mid (ps_asg (pe_op op_sub (pe_ix ix_list (pv 3) pe_int (fun _ _ => rfl)) pe_int) (pg_sub (pv 3) pe_int set_list))
      (pss_cons (ps_set (i := 4) sc_l_any.nd rfl (Or.inl rfl) (pe_c c_l_pick hr (by omega) (by rfl) (pa_cons (pv 0) (pa_cons (pe_tup (pa_cons pe_str (pa_cons pe_str (pa_cons pe_str (pa_cons pe_str (pa_cons pe_str (pa_cons pe_str (pa_cons pe_str (pa_cons pe_str (pa_cons pe_str (pa_cons pe_str (pa_cons pe_str (pa_cons pe_str (pa_cons pe_str (pa_cons pe_str (pa_cons pe_str (pa_cons pe_str pa_nil))))))))))))))))) pa_nil))))
      (pss_cons (ps_if (pt_cmpR op_eq (pv 4) pe_str (nomark _))
        (pss_one (ps_ret (pe_c c_l_any_fun hr (by omega) (by rfl) (pa_cons (pv 0) (pa_cons (pv 1) (pa_cons (pv 2) (pa_cons (pv 3) (pa_cons pe_int pa_nil))))))))
        pss_nil)
      (pss_cons (ps_if (pt_inW (pv 4) (.cons (.cons .nil)) (show 2 ≤ sizeLine by decide) (by rfl))
        (pss_cons (ps_set (i := 5) sc_l_any.nd rfl (Or.inl rfl) (pe_c c_l_any_names hr (by omega) (by rfl) (pa_cons (pv 0) (pa_cons (pv 2) (pa_cons pe_int pa_nil)))))
        (pss_mid (ps_if (pt_cmpR (op_eqD hr.units) (pv 5) (pe_tup pa_nil) (nomark _))
          (pss_one (ps_set (i := 5) sc_l_any.nd rfl (Or.inl rfl) (pe_slice sl_tupA (pv 2) po_none (po_some pe_int))))
          pss_nil)
        (pss_mid (ps_if (pt_cmpR op_eq (pv 4) pe_str (nomark _))
          (pss_one (ps_setLc (i := 6) (own := [("_law_name", 7)]) rfl sc_l_any.nd rfl rfl (sw_true rfl rfl rfl (by decide +kernel)) (pi_tup (pv 5)) (blkOk_by (N := N_l_any) (sc := defScope s_l_any) (by decide +kernel))
      (fun _ _ _ _ _ => (pg_name (i := 7) sc_l_any.nd rfl (Or.inl rfl)))
      (fun _ _ _ _ _ => pts_nil)
      (fun _ _ _ _ _ => (pe_tup (pa_cons (pv 7) (pa_cons (pe_c ih hr (by omega) (by rfl) (pa_cons (pv 0) (pa_cons (pe_op op_sub (pv 1) pe_int) (pa_cons (pv 2) (pa_cons (pv 3) pa_nil))))) pa_nil))))))
          (pss_one (ps_setLc (i := 6) (own := [("_law_name", 7)]) rfl sc_l_any.nd rfl rfl (sw_true rfl rfl rfl (by decide +kernel)) (pi_tup (pe_slice sl_tupA (pv 5) po_none (po_some pe_int))) (blkOk_by (N := N_l_any) (sc := defScope s_l_any) (by decide +kernel))
      (fun _ _ _ _ _ => (pg_name (i := 7) sc_l_any.nd rfl (Or.inl rfl)))
      (fun _ _ _ _ _ => pts_nil)
      (fun _ _ _ _ _ => (pe_tup (pa_cons (pv 7) (pa_cons (pe_c c_l_any_fun hr (by omega) (by rfl) (pa_cons (pv 0) (pa_cons (pv 1) (pa_cons (pv 2) (pa_cons (pv 3) (pa_cons pe_int pa_nil)))))) pa_nil)))))))
        (pss_one (ps_ret (pe_tup (pa_cons (pv 4) (pa_cons (pe_tupleOf (by rfl) T.tuple (pv 6)) (pa_cons (pe_c ih hr (by omega) (by rfl) (pa_cons (pv 0) (pa_cons (pe_op op_sub (pv 1) pe_int) (pa_cons (pv 2) (pa_cons (pv 3) pa_nil))))) pa_nil)))))))))
        pss_nil)
      (pss_cons (ps_if (pt_inW (pv 4) (.cons (.cons (.cons (.cons .nil)))) (show 4 ≤ sizeLine by decide) (by rfl))
        (pss_one (ps_ret (pe_tup (pa_cons (pv 4) (pa_cons (pe_c c_l_pick hr (by omega) (by rfl) (pa_cons (pv 0) (pa_cons (pv 2) pa_nil))) (pa_cons (pe_c ih hr (by omega) (by rfl) (pa_cons (pv 0) (pa_cons (pe_op op_sub (pv 1) pe_int) (pa_cons (pv 2) (pa_cons (pv 3) pa_nil))))) pa_nil))))))
        pss_nil)
      (pss_cons (ps_if (pt_cmpR op_eq (pv 4) pe_str (nomark _))
        (pss_cons (ps_set (i := 8) sc_l_any.nd rfl (Or.inl rfl) (pe_c c_l_pick hr (by omega) (by rfl) (pa_cons (pv 0) (pa_cons (pe_tup (pa_cons pe_str (pa_cons pe_str (pa_cons pe_str (pa_cons pe_str (pa_cons pe_str (pa_cons pe_str (pa_cons pe_str (pa_cons pe_str (pa_cons pe_str (pa_cons pe_str (pa_cons pe_str (pa_cons pe_str (pa_cons pe_str (pa_cons pe_str (pa_cons pe_str (pa_cons pe_str (pa_cons pe_str pa_nil)))))))))))))))))) pa_nil))))
        (pss_mid (ps_set (i := 9) sc_l_any.nd rfl (Or.inl rfl) (pe_ifExp (pt_inW (pv 8) (.cons (.cons (.cons (.cons (.cons (.cons .nil)))))) (show 6 ≤ sizeLine by decide) (by rfl)) pe_int pe_int))
        (pss_one (ps_ret (pe_tup (pa_cons pe_str (pa_cons (pv 8) (pa_cons (pe_tupleOf (by rfl) T.tuple (pe_lc (own := [("_law_k", 10)]) rfl sc_l_any.nd (pi_range1 (by rfl) T.range (pa_cons (pv 9) pa_nil)) (blkOk_by (N := N_l_any) (sc := defScope s_l_any) (by decide +kernel))
      (fun _ _ _ _ _ => (pg_name (i := 10) sc_l_any.nd rfl (Or.inl rfl)))
      (fun _ _ _ _ _ => pts_nil)
      (fun _ _ _ _ _ => (pe_c ih hr (by omega) (by rfl) (pa_cons (pv 0) (pa_cons (pe_op op_sub (pv 1) pe_int) (pa_cons (pv 2) (pa_cons (pv 3) pa_nil)))))))) pa_nil))))))))
        pss_nil)
      (pss_cons (ps_if (pt_cmpR op_eq (pv 4) pe_str (nomark _))
        (pss_cons (ps_set (i := 11) sc_l_any.nd rfl (Or.inl rfl) (pe_c ih hr (by omega) (by rfl) (pa_cons (pv 0) (pa_cons (pe_op op_sub (pv 1) pe_int) (pa_cons (pv 2) (pa_cons (pv 3) pa_nil))))))
        (pss_one (ps_ret (pe_tup (pa_cons pe_str (pa_cons (pv 11) (pa_cons (pe_tupleOf (by rfl) T.tuple (pe_lc (own := [("_law_k", 10)]) rfl sc_l_any.nd (pi_range1 (by rfl) T.range (pa_cons (pe_ix ix_tup (pe_tup (pa_cons pe_int (pa_cons pe_int (pa_cons pe_int (pa_cons pe_int pa_nil))))) (pe_c c_l_draw hr (by omega) (by rfl) (pa_cons (pv 0) (pa_cons pe_int pa_nil))) (fun _ _ => rfl)) pa_nil)) (blkOk_by (N := N_l_any) (sc := defScope s_l_any) (by decide +kernel))
      (fun _ _ _ _ _ => (pg_name (i := 10) sc_l_any.nd rfl (Or.inl rfl)))
      (fun _ _ _ _ _ => pts_nil)
      (fun _ _ _ _ _ => (pe_c ih hr (by omega) (by rfl) (pa_cons (pv 0) (pa_cons (pe_op op_sub (pv 1) pe_int) (pa_cons (pv 2) (pa_cons (pv 3) pa_nil)))))))) pa_nil)))))))
        pss_nil)
      (pss_mid (ps_set (i := 9) sc_l_any.nd rfl (Or.inl rfl) (pe_dget hu (pe_disp (pps_cons pe_str pe_int (pps_cons pe_str (pe_ix ix_tup (pe_tup (pa_cons pe_int (pa_cons pe_int (pa_cons pe_int (pa_cons pe_int pa_nil))))) (pe_c c_l_draw hr (by omega) (by rfl) (pa_cons (pv 0) (pa_cons pe_int pa_nil))) (fun _ _ => rfl)) (pps_cons pe_str pe_int (pps_cons pe_str pe_int (pps_cons pe_str pe_int pps_nil))))) (by rfl) (by rfl) (fun z => by cases z) (by decide)) (pv 4) (fun _ _ => rfl)))
      (pss_cons (ps_set (i := 12) sc_l_any.nd rfl (Or.inl rfl) (pe_tupleOf (by rfl) T.tuple (pe_lc (own := [("_law_k", 10)]) rfl sc_l_any.nd (pi_range1 (by rfl) T.range (pa_cons (pv 9) pa_nil)) (blkOk_by (N := N_l_any) (sc := defScope s_l_any) (by decide +kernel))
      (fun _ _ _ _ _ => (pg_name (i := 10) sc_l_any.nd rfl (Or.inl rfl)))
      (fun _ _ _ _ _ => pts_nil)
      (fun _ _ _ _ _ => (pe_c ih hr (by omega) (by rfl) (pa_cons (pv 0) (pa_cons (pe_op op_sub (pv 1) pe_int) (pa_cons (pv 2) (pa_cons (pv 3) pa_nil)))))))))
      (pss_one (ps_ret (pe_ifExp (pt_cmpR op_eq (pv 4) pe_str (nomark _)) (pe_tup (pa_cons pe_str (pa_cons (pv 12) pa_nil))) (pe_op op_catA (pe_tup (pa_cons (pv 4) pa_nil)) (pv 12))))))))))))))), ?_⟩
      refine ⟨_, rfl, _, _, rfl, rfl, _, rfl, ?_⟩
      refine ite2 (fun _ => iteT ⟨_, rfl, _, rfl, h, c, nm, names, rfl, x.hand, hn, hne, hnl, hso, fun v t H' kh hh hv ok dp sz => q v t k H' (x.draw kh hh).2 (x.draw kh hh).1 hv ok (by omega) (by omega)⟩) (fun hd0 => ?_)
      refine ⟨_, rfl, _, _, _, _, rfl, rfl, .inl (.inl x.rm), rfl, _, _, rfl, rfl, _, rfl, ?_⟩
      refine ite2 (fun _ => ⟨_, rfl, _, rfl, h, c, nm, names, rfl, x.hand, hn, hne, hnl, hso, fun v t H' kh hh hv ok dp sz => q v t k H' (x.draw kh hh).2 (x.draw kh hh).1 hv ok (by omega) (by omega)⟩) (fun hk0 => ?_)
      obtain ⟨d1, rfl⟩ : ∃ d1, deep = d1 + 1 := ⟨deep - 1, by
        have : ¬ ((deep : Nat) : Int) ≤ 0 := fun z => hd0 (decide_eq_true z)
        omega⟩
      obtain ⟨k1, rfl⟩ : ∃ k1, k = k1 + 1 := ⟨k - 1, by
        have : ¬ ((k : Nat) : Int) ≤ 0 := fun z => hk0 (decide_eq_true z)
        omega⟩
      clear hd0 hk0
      refine ⟨fun σ' H' => σ' = [some (.ref h), some (.int ((d1 + 1 : Nat) : Int)), some (.ref nm), some (.ref r), none, none, none, none, none, none, none, none, none] ∧ Gn H' h c r k1 ∧ Kr h r H H', ?_, ?_⟩
      · refine ⟨_, rfl, _, _, _, _, rfl, rfl, .inl (.inl x.rm), rfl, _, _, rfl, rfl, _, rfl, r, _, _, 0, rfl, rfl, x.rm, rfl, rfl, ?_⟩
        have e : ((k1 + 1 : Nat) : Int) - 1 = ((k1 : Nat) : Int) := dec1 k1
        have z := x.less
        rw [← e] at z
        exact z
      rintro σ' H1 ⟨rfl, x1, kr1⟩
      refine ⟨_, rfl, by show 16 ≤ sizeLine; decide, fun tw htw => ?_⟩
      obtain ⟨x1', kr1'⟩ := x1.same (same_new (o := .tup (genW.map V.str)) htw)
      refine ⟨h, c, tw, genW.map V.str, rfl, x1'.hand, .inr (.inl (.inl upd_same)), by decide, by decide, fun v H2 hv kh2 hh2 => ?_⟩
      obtain ⟨x2, kr2'⟩ := x1'.draw kh2 hh2
      have kr2 := (kr1.trans kr1').trans kr2'
      obtain ⟨wd0, hwd, rfl⟩ := mem_str hv
      have hn2 := kr2.tup hn
      clear hv kh2 hh2 x1 kr1 x1' kr1' kr2' htw
      have hdn1 : d1 < n := by omega
      have argEq : ∀ vs : List V, vs = [V.ref h, V.int (((d1 + 1 : Nat) : Int) - 1), V.ref nm, V.ref r] → vs = [V.ref h, V.int ((d1 : Nat) : Int), V.ref nm, V.ref r] := fun vs e => by rw [e, dec1]
      rcases genW_cases wd0 hwd with rfl | rfl | rfl | hw | rfl | rfl | hw
      · refine ⟨_, rfl, rfl, _, rfl, iteEq rfl ?_⟩
        exact ⟨_, rfl, _, rfl, _, rfl, _, rfl, h, c, nm, r, names, k1, d1, 8, rfl, x2, hn2, hne, hnl, hso, hdn1, by decide, by decide, fun v t k2 H3 kr3 x3 hv ok dp sz => q v t k2 H3 (kr2.trans kr3) x3 hv ok (by omega) (by omega)⟩
      · refine ⟨_, rfl, rfl, _, rfl, iteNe (by decide +kernel) ?_⟩
        refine ⟨_, rfl, rfl, fun H2b s2b => iteIn (ws := ["let", "rec"]) (by decide +kernel) ?_⟩
        obtain ⟨x3, kr3'⟩ := x2.same s2b
        have kr3 := kr2.trans kr3'
        refine ⟨_, rfl, _, rfl, h, c, nm, names, 3, rfl, x3.hand, kr3.tup hn, hnl, by decide, by decide, fun rb bs H3 kh3 hh3 hrb hbl hbs => ?_⟩
        obtain ⟨x4, kr4'⟩ := x3.draw kh3 hh3
        have kr4 := kr3.trans kr4'
        clear kr3' kr4' kh3 hh3 x2 x3
        refine ⟨fun σ' H' => ∃ (rb : Addr) (bs : List Str), σ' = [some (.ref h), some (.int ((d1 + 1 : Nat) : Int)), some (.ref nm), some (.ref r), some (.str "let"), some (.ref rb), none, none, none, none, none, none, none] ∧ Gn H' h c r k1 ∧ Kr h r H H' ∧ SqT K H' rb (bs.map V.str) ∧ bs.length ≤ 3 ∧ ∀ x ∈ bs, x ∈ names, ?_, ?_⟩
        · refine ⟨_, rfl, by show 0 ≤ sizeLine; decide, fun e0 he0 => ?_⟩
          have s5 := same_new (o := .tup []) he0
          obtain ⟨x5, kr5⟩ := x4.same s5
          refine ⟨encs bs, .tuple [], .tup (sqt_same s5 hrb) (dpAll_strs bs), .tup (.inl (.inl upd_same)) .nil, (lay_strs (fun y hy => hso y (hbs y hy)) 0).sh (by decide), by decide +kernel, _, rfl, ?_⟩
          refine ite2 (fun _ => ?_) (fun _ => ⟨rb, bs, rfl, x5, kr4.trans kr5, sqt_same s5 hrb, by omega, hbs⟩)
          refine ⟨_, rfl, 1, rfl, ?_⟩
          have hpos : 0 < names.length := List.length_pos_iff.mpr hne
          refine sl_to (k := 1) ((kr4.trans kr5).tup hn) (by rw [List.length_map]; omega) fun t6 H6 s6 ht6 => ?_
          obtain ⟨x6, kr6⟩ := x5.same s6
          rw [← List.map_take] at ht6
          exact ⟨t6, names.take 1, rfl, x6, (kr4.trans kr5).trans kr6, ht6, by rw [List.length_take]; omega, fun y hy => List.mem_of_mem_take hy⟩
        clear hbs hbl hrb x4 kr4
        rintro σ' H4 ⟨rb, bs, rfl, x4, kr4, hrb, hbl, hbs⟩
        refine ⟨fun σ' H' => ∃ (L : Addr) (bs : List Str) (acc : List V) (ts : List Tr) (k2 : Nat) (v5 v7 : Option V), σ' = [some (.ref h), some (.int ((d1 + 1 : Nat) : Int)), some (.ref nm), some (.ref r), some (.str "let"), v5, some (.ref L), v7, none, none, none, none, none] ∧ Gn H' h c r k2 ∧ Kr h r H H' ∧
          H' L = some (.lst acc) ∧ DpAll K H' acc (rowsL bs ts) ∧ ts.length = bs.length ∧ bs.length ≤ 3 ∧ (∀ x ∈ bs, x ∈ names) ∧ (∀ t ∈ ts, t.ok ∧ t.dep ≤ 2 + 2 * d1) ∧ Tr.sizes ts + 12 * k2 ≤ 4 + 12 * k1, ?_, ?_⟩
        · refine ⟨_, rfl, rfl, _, rfl, iteEq rfl ?_⟩
          refine ⟨_, rfl, rb, rfl, ⟨_, hrb⟩, fun D hD => ?_⟩
          refine lc_gen (K := K) (walk_tup (xs := bs.map V.str)) (rowsL bs) (fun i t => rowD ((bs[i]?).getD "", t.enc)) (1 + 2 * d1) 1 (by simp [rowsL, Tr.encL]) (fun ts t hl => rowsL_snoc (by rw [List.length_map] at hl; exact hl)) (rowsL_flat bs) x4 hD (by rw [List.length_map]; omega)
            (fun H' kk => kk.tup hrb) ?_ ?_
          · rintro i y k2 H5 H6 hi kk x5 ⟨rfl, e2⟩ Q1 q1
            obtain ⟨b, eb, rfl⟩ := map_at e2
            refine ⟨rfl, ?_⟩
            refine ⟨_, rfl, _, rfl, _, rfl, _, _, rfl, rfl, _, rfl, _, rfl, h, c, nm, r, names, k2, d1, argEq _ rfl, x5, (kr4.trans kk).tup hn, hne, hnl, hso, hdn1, fun v t k3 H7 kr7 x7 hv ok dp sz => ?_⟩
            refine ⟨by show 2 ≤ sizeLine; decide, fun p hp => ?_⟩
            have s8 := same_new (o := .tup [.str b, v]) hp
            obtain ⟨x8, kr8⟩ := x7.same s8
            refine q1 _ t k3 _ (kr7.trans kr8) x8 ?_ ok dp (by omega)
            rw [eb]
            exact .tup (.inl (.inl upd_same)) (.cons (.str _) (.cons (dp_same s8 _ _ hv) .nil))
          · intro H5 acc ts k2 kk x5 hacc ha hts hok hsz
            rw [List.length_map] at hts hsz
            exact ⟨D, bs, acc, ts, k2, _, _, rfl, x5, kr4.trans kk, hacc, ha, hts, hbl, hbs, fun t ht => ⟨(hok t ht).1, by have := (hok t ht).2; omega⟩, by omega⟩
        rintro σ' H5 ⟨L, bs, acc, ts, k2, v5, v7, rfl, x5, kr5, hL5, ha5, hts, hbl, hbs, hok, hsz⟩
        refine ⟨_, rfl, _, rfl, .inl ⟨L, _, rfl, .inl (.inl hL5), fun t6 ht6 => ?_⟩⟩
        have s6 := same_new (o := .tup acc) ht6
        obtain ⟨x6, kr6'⟩ := x5.same s6
        have kr6 := kr5.trans kr6'
        have ha6 := dps_same s6 _ _ ha5
        have ht6' : SqT K (upd H5 t6 (.tup acc)) t6 acc := .inl (.inl upd_same)
        generalize upd H5 t6 (.tup acc) = H6 at *
        refine ⟨_, rfl, _, rfl, _, _, rfl, rfl, _, rfl, _, rfl, h, c, nm, r, names, k2, d1, argEq _ rfl, x6, kr6.tup hn, hne, hnl, hso, hdn1, fun v t k3 H7 kr7 x7 hv ok dp sz => ?_⟩
        refine ⟨by show 3 ≤ sizeLine; decide, fun p hp => ?_⟩
        have s8 := same_new (o := .tup [.str "let", .ref t6, v]) hp
        obtain ⟨x8, kr8⟩ := x7.same s8
        obtain ⟨ez1, ez2⟩ := zip_end (t := t) hts
        refine q _ (.mk (.bind "let" bs) (ts ++ [t])) k3 _ ((kr6.trans kr7).trans kr8) x8 ?_ ?_ ?_ ?_
        · refine unview (h := .bind "let" bs) (ds := Tr.encL (ts ++ [t])) (.inl (.inl upd_same)) ⟨t6, acc, [v], rfl, sqt_same s8 (kr7.tup ht6'), ?_, ?_⟩
          · rw [ez1]
            exact dps_same s8 _ _ (dps_keep (fun _ _ z => kr7.tup z) _ _ (rowsL_flat bs ts) ha6)
          · rw [ez2]
            exact .cons (dp_same s8 _ _ hv) .nil
        · refine ⟨⟨by rw [List.length_append, hts]; rfl, by decide +kernel, fun y hy => hso y (hbs y hy)⟩, by rw [List.length_append, hts]; show bs.length + 1 ≤ 11; omega, oks_iff.mpr fun u hu => ?_⟩
          rcases List.mem_append.mp hu with hu | hu
          · exact (hok u hu).1
          · cases List.mem_singleton.mp hu
            exact ok
        · refine Nat.le_trans ((dep_mk (n := 2 + 2 * d1)).mpr fun u hu => ?_) (by omega)
          rcases List.mem_append.mp hu with hu | hu
          · have := (hok u hu).2
            omega
          · cases List.mem_singleton.mp hu
            omega
        · show Tr.sizes (ts ++ [t]) + 1 + 12 * k3 ≤ _
          rw [sizes_snoc]
          omega
      · refine ⟨_, rfl, rfl, _, rfl, iteNe (by decide +kernel) ?_⟩
        refine ⟨_, rfl, rfl, fun H2b s2b => iteIn (ws := ["let", "rec"]) (by decide +kernel) ?_⟩
        obtain ⟨x3, kr3'⟩ := x2.same s2b
        have kr3 := kr2.trans kr3'
        refine ⟨_, rfl, _, rfl, h, c, nm, names, 3, rfl, x3.hand, kr3.tup hn, hnl, by decide, by decide, fun rb bs H3 kh3 hh3 hrb hbl hbs => ?_⟩
        obtain ⟨x4, kr4'⟩ := x3.draw kh3 hh3
        have kr4 := kr3.trans kr4'
        clear kr3' kr4' kh3 hh3 x2 x3
        refine ⟨fun σ' H' => ∃ (rb : Addr) (bs : List Str), σ' = [some (.ref h), some (.int ((d1 + 1 : Nat) : Int)), some (.ref nm), some (.ref r), some (.str "rec"), some (.ref rb), none, none, none, none, none, none, none] ∧ Gn H' h c r k1 ∧ Kr h r H H' ∧ SqT K H' rb (bs.map V.str) ∧ bs.length ≤ 3 ∧ ∀ x ∈ bs, x ∈ names, ?_, ?_⟩
        · refine ⟨_, rfl, by show 0 ≤ sizeLine; decide, fun e0 he0 => ?_⟩
          have s5 := same_new (o := .tup []) he0
          obtain ⟨x5, kr5⟩ := x4.same s5
          refine ⟨encs bs, .tuple [], .tup (sqt_same s5 hrb) (dpAll_strs bs), .tup (.inl (.inl upd_same)) .nil, (lay_strs (fun y hy => hso y (hbs y hy)) 0).sh (by decide), by decide +kernel, _, rfl, ?_⟩
          refine ite2 (fun _ => ?_) (fun _ => ⟨rb, bs, rfl, x5, kr4.trans kr5, sqt_same s5 hrb, by omega, hbs⟩)
          refine ⟨_, rfl, 1, rfl, ?_⟩
          have hpos : 0 < names.length := List.length_pos_iff.mpr hne
          refine sl_to (k := 1) ((kr4.trans kr5).tup hn) (by rw [List.length_map]; omega) fun t6 H6 s6 ht6 => ?_
          obtain ⟨x6, kr6⟩ := x5.same s6
          rw [← List.map_take] at ht6
          exact ⟨t6, names.take 1, rfl, x6, (kr4.trans kr5).trans kr6, ht6, by rw [List.length_take]; omega, fun y hy => List.mem_of_mem_take hy⟩
        clear hbs hbl hrb x4 kr4
        rintro σ' H4 ⟨rb, bs, rfl, x4, kr4, hrb, hbl, hbs⟩
        refine ⟨fun σ' H' => ∃ (L : Addr) (bs : List Str) (acc : List V) (ts : List Tr) (k2 : Nat) (v5 v7 : Option V), σ' = [some (.ref h), some (.int ((d1 + 1 : Nat) : Int)), some (.ref nm), some (.ref r), some (.str "rec"), v5, some (.ref L), v7, none, none, none, none, none] ∧ Gn H' h c r k2 ∧ Kr h r H H' ∧
          H' L = some (.lst acc) ∧ DpAll K H' acc (rowsL bs ts) ∧ ts.length = bs.length ∧ bs.length ≤ 3 ∧ (∀ x ∈ bs, x ∈ names) ∧ (∀ t ∈ ts, t.ok ∧ t.dep ≤ 2 + 2 * d1) ∧ Tr.sizes ts + 12 * k2 ≤ 4 + 12 * k1, ?_, ?_⟩
        · refine ⟨_, rfl, rfl, _, rfl, iteNe (by decide +kernel) ?_⟩
          refine ⟨_, rfl, 2, rfl, ?_⟩
          have sl2 : ∀ {Q : VK}, (∀ t H', Same H4 H' → SqT K H' t ((bs.take 2).map V.str) → Q (.ref t) H') → rSlA K (.ref rb) none (some 2) H4 Q := fun {Q} hq => by
            refine ⟨rb, _, rfl, hrb, fun z => ?_, fun _ p hp => ?_⟩
            · rw [show (2 : Int) = ((2 : Nat) : Int) from rfl, HT.sIx_nat] at z
              refine hq rb H4 (Same.refl _) ?_
              rw [List.map_take, List.take_of_length_le (by have := z.2; omega)]
              exact hrb
            · have e : cutV (bs.map V.str) none (some ((2 : Nat) : Int)) = (bs.take 2).map V.str := by
                unfold cutV
                rw [HT.sIx_nat, HT.sIx_none, List.drop_zero, Nat.sub_zero, List.map_take]
                by_cases q2 : 2 ≤ (bs.map V.str).length
                · rw [Nat.min_eq_left q2]
                · rw [Nat.min_eq_right (by omega), List.take_length, List.take_of_length_le (by omega)]
              refine hq p _ (same_new hp) (.inl (.inl ?_))
              show (upd H4 p (.tup (cutV (bs.map V.str) none (some ((2 : Nat) : Int))))) p = _
              rw [e]
              exact upd_same
          refine sl2 fun rb2 H4b s4b hrb2 => ?_
          obtain ⟨x4b, kr4b'⟩ := x4.same s4b
          have kr4b := kr4.trans kr4b'
          have hl2 : (bs.take 2).length ≤ 2 := by rw [List.length_take]; omega
          have hbs2 : ∀ x ∈ bs.take 2, x ∈ names := fun y hy => hbs y (List.mem_of_mem_take hy)
          generalize bs.take 2 = bs2 at *
          refine ⟨rb2, rfl, ⟨_, hrb2⟩, fun D hD => ?_⟩
          refine lc_gen (K := K) (walk_tup (xs := bs2.map V.str)) (rowsL bs2) (fun i t => rowD ((bs2[i]?).getD "", t.enc)) (2 + 2 * d1) 2 (by simp [rowsL, Tr.encL]) (fun ts t hl => rowsL_snoc (by rw [List.length_map] at hl; exact hl)) (rowsL_flat bs2) x4b hD (by rw [List.length_map]; omega)
            (fun H' kk => kk.tup hrb2) ?_ ?_
          · rintro i y k2 H5 H6 hi kk x5 ⟨rfl, e2⟩ Q1 q1
            obtain ⟨b, eb, rfl⟩ := map_at e2
            refine ⟨rfl, ?_⟩
            refine ⟨_, rfl, _, rfl, _, rfl, _, rfl, _, rfl, h, c, nm, r, names, k2, d1, 2, rfl, x5, (kr4b.trans kk).tup hn, hne, hnl, hso, hdn1, by decide, by decide, fun v t k3 H7 kr7 x7 hv ok dp sz => ?_⟩
            refine ⟨by show 2 ≤ sizeLine; decide, fun p hp => ?_⟩
            have s8 := same_new (o := .tup [.str b, v]) hp
            obtain ⟨x8, kr8⟩ := x7.same s8
            refine q1 _ t k3 _ (kr7.trans kr8) x8 ?_ ok dp (by omega)
            rw [eb]
            exact .tup (.inl (.inl upd_same)) (.cons (.str _) (.cons (dp_same s8 _ _ hv) .nil))
          · intro H5 acc ts k2 kk x5 hacc ha hts hok hsz
            rw [List.length_map] at hts hsz
            exact ⟨D, bs2, acc, ts, k2, _, _, rfl, x5, kr4b.trans kk, hacc, ha, hts, by omega, hbs2, hok, by omega⟩
        rintro σ' H5 ⟨L, bs, acc, ts, k2, v5, v7, rfl, x5, kr5, hL5, ha5, hts, hbl, hbs, hok, hsz⟩
        refine ⟨_, rfl, _, rfl, .inl ⟨L, _, rfl, .inl (.inl hL5), fun t6 ht6 => ?_⟩⟩
        have s6 := same_new (o := .tup acc) ht6
        obtain ⟨x6, kr6'⟩ := x5.same s6
        have kr6 := kr5.trans kr6'
        have ha6 := dps_same s6 _ _ ha5
        have ht6' : SqT K (upd H5 t6 (.tup acc)) t6 acc := .inl (.inl upd_same)
        generalize upd H5 t6 (.tup acc) = H6 at *
        refine ⟨_, rfl, _, rfl, _, _, rfl, rfl, _, rfl, _, rfl, h, c, nm, r, names, k2, d1, argEq _ rfl, x6, kr6.tup hn, hne, hnl, hso, hdn1, fun v t k3 H7 kr7 x7 hv ok dp sz => ?_⟩
        refine ⟨by show 3 ≤ sizeLine; decide, fun p hp => ?_⟩
        have s8 := same_new (o := .tup [.str "rec", .ref t6, v]) hp
        obtain ⟨x8, kr8⟩ := x7.same s8
        obtain ⟨ez1, ez2⟩ := zip_end (t := t) hts
        refine q _ (.mk (.bind "rec" bs) (ts ++ [t])) k3 _ ((kr6.trans kr7).trans kr8) x8 ?_ ?_ ?_ ?_
        · refine unview (h := .bind "rec" bs) (ds := Tr.encL (ts ++ [t])) (.inl (.inl upd_same)) ⟨t6, acc, [v], rfl, sqt_same s8 (kr7.tup ht6'), ?_, ?_⟩
          · rw [ez1]
            exact dps_same s8 _ _ (dps_keep (fun _ _ z => kr7.tup z) _ _ (rowsL_flat bs ts) ha6)
          · rw [ez2]
            exact .cons (dp_same s8 _ _ hv) .nil
        · refine ⟨⟨by rw [List.length_append, hts]; rfl, by decide +kernel, fun y hy => hso y (hbs y hy)⟩, by rw [List.length_append, hts]; show bs.length + 1 ≤ 11; omega, oks_iff.mpr fun u hu => ?_⟩
          rcases List.mem_append.mp hu with hu | hu
          · exact (hok u hu).1
          · cases List.mem_singleton.mp hu
            exact ok
        · refine Nat.le_trans ((dep_mk (n := 2 + 2 * d1)).mpr fun u hu => ?_) (by omega)
          rcases List.mem_append.mp hu with hu | hu
          · have := (hok u hu).2
            omega
          · cases List.mem_singleton.mp hu
            omega
        · show Tr.sizes (ts ++ [t]) + 1 + 12 * k3 ≤ _
          rw [sizes_snoc]
          omega
      · refine ⟨_, rfl, rfl, _, rfl, iteNe (fun z => absurd (z ▸ hw : ("fn" : Str) ∈ oneW) (by decide +kernel)) ?_⟩
        refine ⟨_, rfl, rfl, fun H2b s2b => iteNi (ws := ["let", "rec"]) (fun z => ?_) ?_⟩
        · have key : ∀ w ∈ oneW, ¬ w ∈ (["let", "rec"] : List Str) := by decide +kernel
          exact key _ hw z
        refine ⟨_, rfl, rfl, fun H2c s2c => iteIn (ws := ["set", "keep", "once", "take"]) hw ?_⟩
        obtain ⟨x3, kr3'⟩ := x2.same (s2b.trans s2c)
        have kr3 := kr2.trans kr3'
        refine ⟨_, rfl, _, rfl, _, rfl, h, c, nm, _, rfl, x3.hand, .inr (kr3.tup hn), ?_, by rw [List.length_map]; omega, fun v H4 hv kh4 hh4 => ?_⟩
        · intro e
          exact hne (List.map_eq_nil_iff.mp e)
        obtain ⟨y, hy, rfl⟩ := mem_str hv
        obtain ⟨x4, kr4'⟩ := x3.draw kh4 hh4
        have kr4 := kr3.trans kr4'
        refine ⟨_, rfl, _, rfl, _, _, rfl, rfl, _, rfl, _, rfl, h, c, nm, r, names, k1, d1, argEq _ rfl, x4, kr4.tup hn, hne, hnl, hso, hdn1, fun v t k3 H7 kr7 x7 hv ok dp sz => ?_⟩
        refine ⟨by show 3 ≤ sizeLine; decide, fun p hp => ?_⟩
        have s8 := same_new (o := .tup [.str wd0, .str y, v]) hp
        obtain ⟨x8, kr8⟩ := x7.same s8
        refine q _ (.mk (.one wd0 y) [t]) k3 _ ((kr4.trans kr7).trans kr8) x8 ?_ ?_ ?_ ?_
        · exact unview (h := .one wd0 y) (ds := [t.enc]) (.inl (.inl upd_same)) ⟨[v], rfl, .cons (dp_same s8 _ _ hv) .nil⟩
        · exact ⟨⟨rfl, hw, hso y hy⟩, by show 1 ≤ 11; decide, ok, trivial⟩
        · show max t.dep 0 + 1 ≤ _
          omega
        · show t.size + 0 + 1 + 12 * k3 ≤ _
          omega
      · refine ⟨_, rfl, rfl, _, rfl, iteNe (by decide +kernel) ?_⟩
        refine ⟨_, rfl, rfl, fun H2b s2b => iteNi (ws := ["let", "rec"]) (by decide +kernel) ?_⟩
        refine ⟨_, rfl, rfl, fun H2c s2c => iteNi (ws := ["set", "keep", "once", "take"]) (by decide +kernel) ?_⟩
        refine ⟨_, rfl, rfl, _, rfl, iteEq rfl ?_⟩
        refine ⟨_, rfl, by show 17 ≤ sizeLine; decide, fun to hto => ?_⟩
        obtain ⟨x3, kr3'⟩ := x2.same ((s2b.trans s2c).trans (same_new (o := .tup (opW.map V.str)) hto))
        have kr3 := kr2.trans kr3'
        refine ⟨h, c, to, opW.map V.str, rfl, x3.hand, .inr (.inl (.inl upd_same)), by decide, by decide, fun v H4 hv kh4 hh4 => ?_⟩
        obtain ⟨o, ho, rfl⟩ := mem_str hv
        obtain ⟨x4, kr4'⟩ := x3.draw kh4 hh4
        have kr4 := kr3.trans kr4'
        have oso : sok o := by
          have key : ∀ w ∈ opW, sok w := by decide +kernel
          exact key o ho
        refine ⟨fun σ' H' => ∃ m : Nat, σ' = [some (.ref h), some (.int ((d1 + 1 : Nat) : Int)), some (.ref nm), some (.ref r), some (.str "op"), none, none, none, some (.str o), some (.int (m : Nat)), none, none, none] ∧ m ≤ 2 ∧ Gn H' h c r k1 ∧ Kr h r H H', ?_, ?_⟩
        · refine ⟨_, rfl, rfl, fun H5 s5 => ?_⟩
          obtain ⟨x5, kr5⟩ := x4.same s5
          exact ite2 (fun _ => ⟨1, rfl, by decide, x5, kr4.trans kr5⟩) (fun _ => ⟨2, rfl, by decide, x5, kr4.trans kr5⟩)
        clear x3 kr3' kr3 x4 kr4' kr4 hv kh4 hh4
        rintro σ' H4 ⟨m, rfl, hm, x4, kr4⟩
        refine ⟨_, rfl, _, rfl, _, rfl, by omega, by omega, fun D hD => ?_⟩
        refine lc_gen (K := K) (walk_range (lo := 0) (n := m)) Tr.encL (fun _ t => t.enc) (1 + 2 * d1) 1 rfl (fun ts t _ => encL_snoc t ts) flat_encL x4 hD (by omega) (fun _ _ => trivial) ?_ ?_
        · rintro i y k4 H5 H6 hi kk xg ⟨rfl, rfl⟩ Q1 q1
          refine ⟨rfl, ?_⟩
          exact ⟨_, rfl, _, rfl, _, _, rfl, rfl, _, rfl, _, rfl, h, c, nm, r, names, k4, d1, argEq _ rfl, xg, (kr4.trans kk).tup hn, hne, hnl, hso, hdn1, q1⟩
        · intro H5 acc ts k4 kk x5 hacc ha hts hok hsz
          refine .inl ⟨D, _, rfl, .inl (.inl hacc), fun t6 ht6 => ?_⟩
          have s6 := same_new (o := .tup acc) ht6
          refine ⟨by show 3 ≤ sizeLine; decide, fun p hp => ?_⟩
          have s7 := same_new (o := .tup [.str "op", .str o, .ref t6]) hp
          obtain ⟨x8, kr8⟩ := x5.same (s6.trans s7)
          refine q _ (.mk (.op o) ts) k4 _ ((kr4.trans kk).trans kr8) x8 ?_ ?_ ?_ ?_
          · exact unview (h := .op o) (.inl (.inl upd_same)) ⟨t6, acc, rfl, sqt_same s7 (.inl (.inl upd_same)), dps_same (s6.trans s7) _ _ ha⟩
          · exact ⟨oso, by omega, oks_iff.mpr fun u hu => (hok u hu).1⟩
          · refine Nat.le_trans ((dep_mk (n := 2 + 2 * d1)).mpr fun u hu => ?_) (by omega)
            have := (hok u hu).2
            omega
          · show Tr.sizes ts + 1 + 12 * k4 ≤ _
            omega
      · refine ⟨_, rfl, rfl, _, rfl, iteNe (by decide +kernel) ?_⟩
        refine ⟨_, rfl, rfl, fun H2b s2b => iteNi (ws := ["let", "rec"]) (by decide +kernel) ?_⟩
        refine ⟨_, rfl, rfl, fun H2c s2c => iteNi (ws := ["set", "keep", "once", "take"]) (by decide +kernel) ?_⟩
        refine ⟨_, rfl, rfl, _, rfl, iteNe (by decide +kernel) ?_⟩
        refine ⟨_, rfl, rfl, _, rfl, iteEq rfl ?_⟩
        obtain ⟨x3, kr3'⟩ := x2.same (s2b.trans s2c)
        have kr3 := kr2.trans kr3'
        refine ⟨_, rfl, _, rfl, _, _, rfl, rfl, _, rfl, _, rfl, h, c, nm, r, names, k1, d1, argEq _ rfl, x3, kr3.tup hn, hne, hnl, hso, hdn1, fun v0 t0 k2 H4 kr4' x4 hv0 ok0 dp0 sz0 => ?_⟩
        have kr4 := kr3.trans kr4'
        refine ⟨_, rfl, by show 4 ≤ sizeLine; decide, fun tq htq => ?_⟩
        have s5 := same_new (o := .tup [.int 0, .int 1, .int 2, .int 10]) htq
        obtain ⟨x5, kr5'⟩ := x4.same s5
        have kr5 := kr4.trans kr5'
        have htq5 : SqT K (upd H4 tq (.tup [.int 0, .int 1, .int 2, .int 10])) tq [.int 0, .int 1, .int 2, .int 10] := .inl (.inl upd_same)
        have hv5 := dp_same s5 _ _ hv0
        generalize upd H4 tq (.tup [.int 0, .int 1, .int 2, .int 10]) = H5 at *
        refine ⟨_, rfl, h, c, _, rfl, x5.hand, by decide, by decide, fun j H6 j0 j1 kh6 hh6 => ?_⟩
        obtain ⟨x6, kr6'⟩ := x5.draw kh6 hh6
        have kr6 := kr5.trans kr6'
        obtain ⟨m, hm, em⟩ : ∃ m : Nat, m ≤ 10 ∧ atI [V.int 0, .int 1, .int 2, .int 10] j = some (.int (m : Nat)) := by
          have : j = 0 ∨ j = 1 ∨ j = 2 ∨ j = 3 := by omega
          rcases this with rfl | rfl | rfl | rfl
          · exact ⟨0, by decide, atI_nat (j := 0) rfl⟩
          · exact ⟨1, by decide, atI_nat (j := 1) rfl⟩
          · exact ⟨2, by decide, atI_nat (j := 2) rfl⟩
          · exact ⟨10, by decide, atI_nat (j := 3) rfl⟩
        refine ⟨tq, _, _, _, rfl, rfl, kh6.tup htq5, em, _, rfl, by omega, by omega, fun D hD => ?_⟩
        have hv6 := dp_keep (fun _ _ z => kh6.tup z) _ _ (flat_enc t0) hv5
        refine lc_gen (K := K) (walk_range (lo := 0) (n := m)) Tr.encL (fun _ t => t.enc) (1 + 2 * d1) 1 rfl (fun ts t _ => encL_snoc t ts) flat_encL x6 hD (by omega) (fun _ _ => trivial) ?_ ?_
        · rintro i y k4 H7 H8 hi kk xg ⟨rfl, rfl⟩ Q1 q1
          refine ⟨rfl, ?_⟩
          exact ⟨_, rfl, _, rfl, _, _, rfl, rfl, _, rfl, _, rfl, h, c, nm, r, names, k4, d1, argEq _ rfl, xg, (kr6.trans kk).tup hn, hne, hnl, hso, hdn1, q1⟩
        · intro H7 acc ts k4 kk x7 hacc ha hts hok hsz
          refine .inl ⟨D, _, rfl, .inl (.inl hacc), fun t6 ht6 => ?_⟩
          have s6 := same_new (o := .tup acc) ht6
          refine ⟨by show 3 ≤ sizeLine; decide, fun p hp => ?_⟩
          have s7 := same_new (o := .tup [.str "call", v0, .ref t6]) hp
          obtain ⟨x8, kr8⟩ := x7.same (s6.trans s7)
          have hv7 := dp_same (s6.trans s7) _ _ (dp_keep (fun _ _ z => kk.tup z) _ _ (flat_enc t0) hv6)
          refine q _ (.mk .call (t0 :: ts)) k4 _ ((kr6.trans kk).trans kr8) x8 ?_ ?_ ?_ ?_
          · exact unview (h := .call) (ds := Tr.encL (t0 :: ts)) (.inl (.inl upd_same)) ⟨t6, [v0], acc, rfl, .cons hv7 .nil, sqt_same s7 (.inl (.inl upd_same)), dps_same (s6.trans s7) _ _ ha⟩
          · exact ⟨Nat.succ_le_succ (Nat.zero_le _), by show ts.length + 1 ≤ 11; omega, ok0, oks_iff.mpr fun u hu => (hok u hu).1⟩
          · refine Nat.le_trans ((dep_mk (n := 2 + 2 * d1)).mpr fun u hu => ?_) (by omega)
            rcases List.mem_cons.mp hu with rfl | hu
            · omega
            · have := (hok u hu).2
              omega
          · show t0.size + Tr.sizes ts + 1 + 12 * k4 ≤ _
            omega
      · have no : ∀ y : Str, y ∉ lastW → ¬ wd0 = y := fun y hy z => hy (z ▸ hw)
        have noIn : ∀ ws : List Str, (∀ y ∈ lastW, ¬ y ∈ ws) → ¬ wd0 ∈ ws := fun ws hy => hy wd0 hw
        refine ⟨_, rfl, rfl, _, rfl, iteNe (no _ (by decide +kernel)) ?_⟩
        refine ⟨_, rfl, rfl, fun H2b s2b => iteNi (ws := ["let", "rec"]) (noIn _ (by decide +kernel)) ?_⟩
        refine ⟨_, rfl, rfl, fun H2c s2c => iteNi (ws := ["set", "keep", "once", "take"]) (noIn _ (by decide +kernel)) ?_⟩
        refine ⟨_, rfl, rfl, _, rfl, iteNe (no _ (by decide +kernel)) ?_⟩
        refine ⟨_, rfl, rfl, _, rfl, iteNe (no _ (by decide +kernel)) ?_⟩
        obtain ⟨x3, kr3'⟩ := x2.same (s2b.trans s2c)
        have kr3 := kr2.trans kr3'
        refine ⟨fun σ' H' => ∃ m : Nat, σ' = [some (.ref h), some (.int ((d1 + 1 : Nat) : Int)), some (.ref nm), some (.ref r), some (.str wd0), none, none, none, none, some (.int (m : Nat)), none, none, none] ∧ m ≤ 10 ∧ Gn H' h c r k1 ∧ Kr h r H H', ?_, ?_⟩
        · refine fun p hp => ?_
          have s4 := same_new (o := .dK []) hp
          have nD := x3.hand.there hp
          have nDr : p ≠ r := (ne_of_none x3.rm hp).symm
          obtain ⟨x4, kr4'⟩ := x3.same s4
          have ep : (upd H2c p (.dK [])) p = some (.dK []) := upd_same
          generalize upd H2c p (.dK []) = H4 at *
          refine ⟨by show 4 ≤ sizeLine; decide, fun tq htq => ?_⟩
          have s5 := same_new (o := .tup [.int 1, .int 2, .int 3, .int 10]) htq
          obtain ⟨x5, kr5'⟩ := x4.same s5
          have kr5 := kr4'.trans kr5'
          have htq5 : SqT K (upd H4 tq (.tup [.int 1, .int 2, .int 3, .int 10])) tq [.int 1, .int 2, .int 3, .int 10] := .inl (.inl upd_same)
          have ep5 := s5 _ _ ep
          generalize upd H4 tq (.tup [.int 1, .int 2, .int 3, .int 10]) = H5 at *
          refine ⟨_, rfl, h, c, _, rfl, x5.hand, by decide, by decide, fun j H6 j0 j1 kh6 hh6 => ?_⟩
          obtain ⟨x6, kr6'⟩ := x5.draw kh6 hh6
          have kr6 := kr5.trans kr6'
          have ep6 := kh6.st _ _ nD.1 ep5
          obtain ⟨m, hm, em⟩ : ∃ m : Nat, m ≤ 10 ∧ atI [V.int 1, .int 2, .int 3, .int 10] j = some (.int (m : Nat)) := by
            have : j = 0 ∨ j = 1 ∨ j = 2 ∨ j = 3 := by omega
            rcases this with rfl | rfl | rfl | rfl
            · exact ⟨1, by decide, atI_nat (j := 0) rfl⟩
            · exact ⟨2, by decide, atI_nat (j := 1) rfl⟩
            · exact ⟨3, by decide, atI_nat (j := 2) rfl⟩
            · exact ⟨10, by decide, atI_nat (j := 3) rfl⟩
          refine ⟨tq, _, _, _, rfl, rfl, kh6.tup htq5, em, ep6, manyK m, rfl, by show 5 ≤ 15; decide, _, rfl, p, ?_⟩
          obtain ⟨m2, hm2, e2⟩ := many_at hm wd0 hw
          have hg : DGet (upd H6 p (.dK (mergeK [] (manyK m)))) p (.str wd0) (valV (mergeK [] (manyK m)) (Sum.inr wd0)) := DGet.k (k := Sum.inr wd0) upd_same
          rw [e2] at hg
          refine ⟨_, rfl, hg, m2, rfl, hm2, x6.puts nD.1 nD.2 nDr, ?_⟩
          have kz : Kr h r H2c (upd H6 p (.dK (mergeK [] (manyK m)))) := Kp.mut kr6 hp
          exact kr3.trans kz
        clear x3 kr3' kr3
        rintro σ' H4 ⟨m, rfl, hm, x4, kr4⟩
        refine ⟨_, rfl, _, rfl, by omega, by omega, fun D hD => ?_⟩
        refine lc_gen (K := K) (walk_range (lo := 0) (n := m)) Tr.encL (fun _ t => t.enc) (1 + 2 * d1) 1 rfl (fun ts t _ => encL_snoc t ts) flat_encL x4 hD (by omega) (fun _ _ => trivial) ?_ ?_
        · rintro i y k4 H5 H6 hi kk xg ⟨rfl, rfl⟩ Q1 q1
          refine ⟨rfl, ?_⟩
          exact ⟨_, rfl, _, rfl, _, _, rfl, rfl, _, rfl, _, rfl, h, c, nm, r, names, k4, d1, argEq _ rfl, xg, (kr4.trans kk).tup hn, hne, hnl, hso, hdn1, q1⟩
        · intro H5 acc ts k4 kk x5 hacc ha hts hok hsz
          refine .inl ⟨D, _, rfl, .inl (.inl hacc), fun t6 ht6 => ?_⟩
          have s6 := same_new (o := .tup acc) ht6
          have hal := DpAll.len ha
          rw [encL_len] at hal
          refine ⟨_, rfl, rfl, _, rfl, ?_⟩
          by_cases hdo : wd0 = "do"
          · refine iteEq hdo ⟨_, rfl, by show 2 ≤ sizeLine; decide, fun p hp => ?_⟩
            have s7 := same_new (o := .tup [.str "do", .ref t6]) hp
            obtain ⟨x8, kr8⟩ := x5.same (s6.trans s7)
            refine q _ (.mk .doo ts) k4 _ ((kr4.trans kk).trans kr8) x8 ?_ ?_ ?_ ?_
            · exact unview (h := .doo) (.inl (.inl upd_same)) ⟨t6, acc, rfl, sqt_same s7 (.inl (.inl upd_same)), dps_same (s6.trans s7) _ _ ha⟩
            · exact ⟨trivial, by omega, oks_iff.mpr fun u hu => (hok u hu).1⟩
            · refine Nat.le_trans ((dep_mk (n := 2 + 2 * d1)).mpr fun u hu => ?_) (by omega)
              have := (hok u hu).2
              omega
            · show Tr.sizes ts + 1 + 12 * k4 ≤ _
              omega
          · refine iteNe hdo ⟨_, rfl, by show 1 ≤ sizeLine; decide, fun p hp => ⟨_, rfl, ?_⟩⟩
            have s7 := same_new (o := .tup [.str wd0]) hp
            refine cat_any (.inl (.inl upd_same)) (sqt_same s7 (.inl (.inl upd_same))) (Nat.le_trans (show 1 + acc.length ≤ 100 by omega) (by decide)) fun p2 H8 s8 hp2 => ?_
            obtain ⟨x8, kr8⟩ := x5.same ((s6.trans s7).trans s8)
            have hpw : wd0 ∈ plainW := by
              have key : ∀ y ∈ lastW, ¬ y = "do" → y ∈ plainW := by decide +kernel
              exact key _ hw hdo
            refine q _ (.mk (.plain wd0) ts) k4 _ ((kr4.trans kk).trans kr8) x8 ?_ ?_ ?_ ?_
            · exact unview (h := .plain wd0) hp2 ⟨acc, rfl, dps_same ((s6.trans s7).trans s8) _ _ ha⟩
            · exact ⟨hpw, by omega, oks_iff.mpr fun u hu => (hok u hu).1⟩
            · refine Nat.le_trans ((dep_mk (n := 2 + 2 * d1)).mpr fun u hu => ?_) (by omega)
              have := (hok u hu).2
              omega
            · show Tr.sizes ts + 1 + 12 * k4 ≤ _
              omega
end
end K26

namespace K26
open PySem L2 Cm
/-- a form with the parts of a list: its items -/
def spJoin (K : PySem.W.Frag) : Sp := fun vs H Q _ => ∃ (v : V) (b : Addr) (h : Hd) (ds0 ds : List PyData) (us : List V), vs = [v, .ref b] ∧ Dp K H v (encH h ds0) ∧ hok h ds0.length ∧ ds.length = ds0.length ∧ ds.length ≤ 100 ∧ flatDs ds = true ∧
  H b = some (.lst us) ∧ DpAll K H us ds ∧ ∀ (r : Addr) (its : List V) (H' : Hp), Same H H' → SqT K H' r its → Items K H' ds h its → its.length ≤ 200 → Q (.ref r) H'
section
variable {P : Program} {w : World} {K : PySem.W.Frag} {mg : Str → Option Value} {base : Heap}
abbrev s_l_joined : Stmt := top 24
abbrev N_l_joined : List Str := ["_law_tree", "_law_inner", "_law_word", "_law_pair", "_law_right"]
theorem sc_l_joined : FnScope N_l_joined ["_law_tree", "_law_inner"] (defScope s_l_joined) := ⟨rfl, rfl, rfl, by decide +kernel, rfl, by decide +kernel, by decide +kernel⟩
theorem ok_joined (T : Txt mg) (D : At K mg "_law_joined" s_l_joined ["_law_tree", "_law_inner"]) : Cl P w K mg base 1 "_law_joined" (spJoin K) := by
  refine cl_of D sc_l_joined (fun vs H Q E h => ?_) fun f cdv A outer s H vs Q E hr h => ?_
  · obtain ⟨v, b, h, ds0, ds, us, rfl, _⟩ := h
    rfl
  · obtain ⟨v, b, h, ds0, ds, us, rfl, hd, o, hln, hlen, fl, hb, hu, k⟩ := h
    obtain ⟨a, its, rfl, hs, hx⟩ := view hd
    refine ⟨_, (pss_cons (ps_set (i := 2) sc_l_joined.nd rfl (Or.inl rfl) (pe_ix ix_tup (pv 0) pe_int (fun _ _ => rfl)))
      (pss_cons (ps_if (pt_inW (pv 2) (.cons (.cons (.cons (.cons (.cons (.cons .nil)))))) (show 6 ≤ sizeLine by decide) (by rfl))
        (pss_one (ps_ret (pv 0)))
        pss_nil)
      (pss_cons (ps_if (pt_inW (pv 2) (.cons (.cons (.cons (.cons (.cons .nil))))) (show 5 ≤ sizeLine by decide) (by rfl))
        (pss_one (ps_ret (pe_tup (pa_cons (pv 2) (pa_cons (pe_ix ix_tup (pv 0) pe_int (fun _ _ => rfl)) (pa_cons (pe_ix ix_list (pv 1) pe_int (fun _ _ => rfl)) pa_nil))))))
        pss_nil)
      (pss_cons (ps_if (pt_inW (pv 2) (.cons (.cons .nil)) (show 2 ≤ sizeLine by decide) (by rfl))
        (pss_one (ps_ret (pe_tup (pa_cons (pv 2) (pa_cons (pe_tupleOf (by rfl) T.tuple (pe_lc (own := [("_law_pair", 3), ("_law_right", 4)]) (g := gTup K 2 (gCons (gName 3) (gCons (gName 4) gNil))) rfl sc_l_joined.nd (pi_zipM (by rfl) T.zip (pa_cons (pe_ix ix_tup (pv 0) pe_int (fun _ _ => rfl)) (pa_cons (pv 1) pa_nil))) (blkOk_by (N := N_l_joined) (sc := defScope s_l_joined) (by decide +kernel))
      (fun _ _ _ _ _ => (pg_tup rfl (pgs_cons (pg_name (i := 3) sc_l_joined.nd rfl (Or.inl rfl)) (pgs_cons (pg_name (i := 4) sc_l_joined.nd rfl (Or.inl rfl)) pgs_nil))))
      (fun _ _ _ _ _ => pts_nil)
      (fun _ _ _ _ _ => (pe_tup (pa_cons (pe_ix (kx_tup (K := K)) (pv 3) pe_int (fun _ _ => rfl)) (pa_cons (pv 4) pa_nil)))))) (pa_cons (pe_ix ix_list (pv 1) (pe_un un_neg pe_int) (fun _ _ => rfl)) pa_nil))))))
        pss_nil)
      (pss_cons (ps_if (pt_cmpR op_eq (pv 2) pe_str (nomark _))
        (pss_one (ps_ret (pe_tup (pa_cons (pv 2) (pa_cons (pe_tupleOf (by rfl) T.tuple (pv 1)) pa_nil)))))
        pss_nil)
      (pss_cons (ps_if (pt_cmpR op_eq (pv 2) pe_str (nomark _))
        (pss_one (ps_ret (pe_tup (pa_cons (pv 2) (pa_cons (pe_ix ix_list (pv 1) pe_int (fun _ _ => rfl)) (pa_cons (pe_tupleOf (by rfl) T.tuple (pe_slice sl_list (pv 1) (po_some pe_int) po_none)) pa_nil))))))
        pss_nil)
      (pss_cons (ps_if (pt_cmpR op_eq (pv 2) pe_str (nomark _))
        (pss_one (ps_ret (pe_tup (pa_cons (pv 2) (pa_cons (pe_ix ix_tup (pv 0) pe_int (fun _ _ => rfl)) (pa_cons (pe_tupleOf (by rfl) T.tuple (pv 1)) pa_nil))))))
        pss_nil)
      (pss_one (ps_ret (pe_op op_catA (pe_tup (pa_cons (pv 2) pa_nil)) (pe_tupleOf (by rfl) T.tuple (pv 1)))))))))))), ?_⟩
    have hhd := hx.head
    have hul := DpAll.len hu
    refine ⟨_, rfl, a, its, _, _, rfl, rfl, hs, hhd, ?_⟩
    refine ⟨_, rfl, rfl, fun H1 s1 => ?_⟩
    rw [in_L o]
    cases eL : kL h with
    | true =>
      refine iteT ⟨_, rfl, ?_⟩
      have e1 : ds0 = [] := by
        cases h with
        | num i => exact List.length_eq_zero_iff.mp o
        | name i => exact List.length_eq_zero_iff.mp o.1
        | lit i => exact List.length_eq_zero_iff.mp o.1
        | _ => cases eL
      subst e1
      obtain rfl := List.length_eq_zero_iff.mp hln
      refine k a its _ s1 (sqt_same s1 hs) (hx.same s1) ?_
      cases h with
      | num i => obtain rfl := (show its = _ from hx); show 2 ≤ 200; decide
      | name i => obtain rfl := (show its = _ from hx); show 2 ≤ 200; decide
      | lit i => obtain rfl := (show its = _ from hx); show 1 ≤ 200; decide
      | _ => cases eL
    | false =>
    refine iteF ⟨_, rfl, rfl, fun H2 s12 => ?_⟩
    have S2 := s1.trans s12
    rw [in_F o]
    cases eF : kF h with
    | true =>
      refine iteT ?_
      have hx1 := hx.same S2
      have hs1 := sqt_same S2 hs
      have hb1 := S2 _ _ hb
      have hu1 := dps_same S2 _ _ hu
      cases h with
      | fn xs =>
        obtain ⟨d, rfl⟩ := one_of (show ds.length = 1 by rw [hln]; exact o.1)
        obtain ⟨q, vs, rfl, hq, hv⟩ := hx1
        obtain ⟨v, rfl, hv'⟩ := dpAll_one hu1
        refine ⟨_, rfl, _, rfl, a, _, _, _, rfl, rfl, hs1, atI_nat (j := 1) rfl, _, rfl, b, _, _, _, rfl, rfl, .inl (.inl hb1), atI_nat (j := 0) rfl, by show 3 ≤ sizeLine; decide, fun t ht => ?_⟩
        have s2 := same_new (o := .tup [.str (wd (.fn xs)), .ref q, v]) ht
        exact k _ _ _ (S2.trans s2) (.inl (.inl upd_same)) ⟨q, [v], rfl, sqt_same s2 hq, dps_same s2 _ _ hu1⟩ (by show 3 ≤ 200; decide)
      | one w x =>
        obtain ⟨d, rfl⟩ := one_of (show ds.length = 1 by rw [hln]; exact o.1)
        obtain ⟨vs, rfl, hv⟩ := hx1
        obtain ⟨v, rfl, hv'⟩ := dpAll_one hu1
        refine ⟨_, rfl, _, rfl, a, _, _, _, rfl, rfl, hs1, atI_nat (j := 1) rfl, _, rfl, b, _, _, _, rfl, rfl, .inl (.inl hb1), atI_nat (j := 0) rfl, by show 3 ≤ sizeLine; decide, fun t ht => ?_⟩
        have s2 := same_new (o := .tup [.str (wd (.one w x)), .str x, v]) ht
        exact k _ _ _ (S2.trans s2) (.inl (.inl upd_same)) ⟨[v], rfl, dps_same s2 _ _ hu1⟩ (by show 3 ≤ 200; decide)
      | _ => cases eF
    | false =>
    refine iteF ⟨_, rfl, rfl, fun H3 s23 => ?_⟩
    have S3 := S2.trans s23
    have hb2 := S3 _ _ hb
    have hu2 := dps_same S3 _ _ hu
    rw [in_B o]
    cases eB : kB h with
    | true =>
      refine iteT ?_
      have hx2 := hx.same S3
      have hs2 := sqt_same S3 hs
      cases h with
      | bind w xs =>
        obtain ⟨q, rows, vs, rfl, hq, hrows, hv⟩ := hx2
        have hdl0 : ds0.length = xs.length + 1 := o.1
        have hdl : ds.length = xs.length + 1 := by rw [hln]; exact hdl0
        have hrl : rows.length = xs.length := by
          have := DpAll.len hrows
          rw [List.length_map, List.length_zip] at this
          omega
        refine ⟨_, rfl, _, rfl, a, _, _, _, rfl, rfl, hs2, atI_nat (j := 1) rfl, _, rfl, q, b, rows, us, rfl, hq, .inl (.inl hb2), fun L hL => ?_⟩
        have hn : (xs.zip ds).length = rows.length := by rw [List.length_zip]; omega
        refine lc_data (K := K) (walk_zipM (xs := rows) (ys := us) (n := (xs.zip ds).length) (.inl hn.symm) (Nat.le_of_eq hn) (by rw [List.length_zip]; omega)) (fun i => ((xs.zip ds)[i]?).map rowD) hL (by rw [List.length_zip]; omega) (fun H' s => ⟨sqt_same s hq, .inl (.inl (s _ _ hb2))⟩) (fun i _ d e => ?_) ?_ ?_
        · obtain ⟨p, e', rfl⟩ := Option.map_eq_some_iff.mp e
          have := (List.getElem?_zip_eq_some.mp e').2
          have f2 := flatDs_all fl _ (List.mem_of_getElem? this)
          simp [rowD, flatD, flatDs, f2]
        · rintro i x H4 H5 hi s3 ⟨T1, x1, x2, rfl, hT, rfl, e1, e2⟩ Q1 Q0 q1 q0
          have sT := same_new (o := .tup [x1, x2]) hT
          obtain ⟨d, g1, g2⟩ := DpAll.atV hrows e1
          obtain ⟨p, ep, rfl⟩ := map_at g1
          obtain ⟨r, its3, rfl, hr3, hi3⟩ := dp_tup (dp_same (s3.trans sT) _ _ g2)
          obtain ⟨d2, g3, g4⟩ := DpAll.atV hu2 e2
          cases hi3 with
          | cons h1 h2 =>
            have e1s := dp_str h1
            subst e1s
            refine ⟨T1, _, rfl, .inl (.inl upd_same), rfl, _, _, rfl, _, _, rfl, rfl, rfl, ?_⟩
            refine ⟨_, rfl, r, _, _, _, rfl, rfl, hr3, atI_nat (j := 0) rfl, _, rfl, by show 2 ≤ sizeLine; decide, fun t ht => ?_⟩
            have s5 := same_new (o := .tup [.str p.1, x2]) ht
            refine q1 _ _ (rowD (p.1, d2)) (zip_rows hdl (List.getElem?_zip_eq_some.mp ep).1 g3) (sT.trans s5) ?_
            exact .tup (.inl (.inl upd_same)) (.cons (.str _) (.cons (dp_same (s3.trans (sT.trans s5)) _ _ g4) .nil))
        · intro H4 acc s3 hacc ha3
          rw [range_map] at ha3
          refine .inl ⟨L, _, rfl, .inl (.inl hacc), fun t3 ht3 => ?_⟩
          have s4 := same_new (o := .tup acc) ht3
          have s34 := s3.trans s4
          obtain ⟨ul, dl, eul, edl, hdl2⟩ : ∃ ul dl, us = us.take xs.length ++ [ul] ∧ ds.drop xs.length = [dl] ∧ Dp K H3 ul dl := by
            obtain ⟨dl, edl⟩ := one_of (show (ds.drop xs.length).length = 1 by rw [List.length_drop]; omega)
            have hud := DpAll.drop xs.length hu2
            rw [edl] at hud
            obtain ⟨ul, e, h⟩ := dpAll_one hud
            exact ⟨ul, dl, by rw [← e, List.take_append_drop], edl, h⟩
          refine ⟨_, rfl, _, rfl, b, _, _, _, rfl, rfl, .inl (.inl (s34 _ _ hb2)), by rw [eul]; exact atI_last _ _, by show 3 ≤ sizeLine; decide, fun t5 ht5 => ?_⟩
          have s5 := same_new (o := .tup [.str (wd (.bind w xs)), .ref t3, ul]) ht5
          refine k _ _ _ ((S3.trans s34).trans s5) (.inl (.inl upd_same)) ⟨t3, acc, [ul], rfl, sqt_same s5 (.inl (.inl upd_same)), dps_same (s4.trans s5) _ _ ha3, ?_⟩ (by show 3 ≤ 200; decide)
          rw [edl]
          exact .cons (dp_same (s34.trans s5) _ _ hdl2) .nil
      | _ => cases eB
    | false =>
    refine iteF ⟨_, rfl, rfl, _, rfl, ?_⟩
    rw [eq_do o]
    cases eD : isDo h with
    | true =>
      refine iteT ?_
      cases h with
      | doo =>
        refine ⟨_, rfl, _, rfl, .inl ⟨b, _, rfl, .inl (.inl hb2), fun t6 ht6 => ⟨by show 2 ≤ sizeLine; decide, fun t ht => ?_⟩⟩⟩
        have s4 := same_new (o := .tup us) ht6
        have s5 := same_new (o := .tup [.str (wd .doo), .ref t6]) ht
        exact k _ _ _ (S3.trans (s4.trans s5)) (.inl (.inl upd_same)) ⟨t6, us, rfl, sqt_same s5 (.inl (.inl upd_same)), dps_same (s4.trans s5) _ _ hu2⟩ (by show 2 ≤ 200; decide)
      | _ => cases eD
    | false =>
    refine iteF ⟨_, rfl, rfl, _, rfl, ?_⟩
    rw [eq_call o]
    cases eC : isCall h with
    | true =>
      refine iteT ?_
      cases h with
      | call =>
        have hdl : 1 ≤ ds.length := by rw [hln]; exact o
        obtain ⟨u0, ur, rfl⟩ : ∃ u0 ur, us = u0 :: ur := by
          cases us with
          | nil => simp at hul; omega
          | cons u0 ur => exact ⟨u0, ur, rfl⟩
        have ec : cutV (u0 :: ur) (some ((1 : Nat) : Int)) Option.none = ur := cut_from (k := 1) (by rw [List.length_cons]; omega)
        refine ⟨_, rfl, _, rfl, b, _, _, _, rfl, rfl, .inl (.inl hb2), atI_nat (j := 0) rfl, _, rfl, 1, rfl, b, _, rfl, .inl (.inl hb2), fun p hp => ?_⟩
        have ep : (upd H3 p (.lst (cutV (u0 :: ur) (some 1) Option.none))) p = some (.lst ur) := by
          rw [upd_same]
          exact congrArg (fun z => some (HO.lst z)) ec
        have s4 := same_new (o := .lst (cutV (u0 :: ur) (some 1) Option.none)) hp
        generalize upd H3 p (.lst (cutV (u0 :: ur) (some 1) Option.none)) = H4 at *
        refine .inl ⟨p, _, rfl, .inl (.inl ep), fun t6 ht6 => ⟨by show 3 ≤ sizeLine; decide, fun t ht => ?_⟩⟩
        have s5 := same_new (o := .tup ur) ht6
        have s6 := same_new (o := .tup [.str (wd .call), u0, .ref t6]) ht
        have S := (s4.trans s5).trans s6
        exact k _ _ _ (S3.trans S) (.inl (.inl upd_same)) ⟨t6, [u0], ur, rfl, DpAll.take 1 (dps_same S _ _ hu2), sqt_same s6 (.inl (.inl upd_same)), DpAll.drop 1 (dps_same S _ _ hu2)⟩ (by show 3 ≤ 200; decide)
      | _ => cases eC
    | false =>
    refine iteF ⟨_, rfl, rfl, _, rfl, ?_⟩
    rw [eq_op o]
    cases eO : isOp h with
    | true =>
      refine iteT ?_
      have hx2 := hx.same S3
      cases h with
      | op o' =>
        obtain ⟨q, vs, rfl, hq, hv⟩ := hx2
        refine ⟨_, rfl, _, rfl, a, _, _, _, rfl, rfl, sqt_same S3 hs, atI_nat (j := 1) rfl, _, rfl, .inl ⟨b, _, rfl, .inl (.inl hb2), fun t6 ht6 => ⟨by show 3 ≤ sizeLine; decide, fun t ht => ?_⟩⟩⟩
        have s4 := same_new (o := .tup us) ht6
        have s5 := same_new (o := .tup [.str (wd (.op o')), .str o', .ref t6]) ht
        exact k _ _ _ (S3.trans (s4.trans s5)) (.inl (.inl upd_same)) ⟨t6, us, rfl, sqt_same s5 (.inl (.inl upd_same)), dps_same (s4.trans s5) _ _ hu2⟩ (by show 3 ≤ 200; decide)
      | _ => cases eO
    | false =>
    refine iteF ⟨_, rfl, by show 1 ≤ sizeLine; decide, fun t4 ht4 => ?_⟩
    have s4 := same_new (o := .tup [.str (wd h)]) ht4
    have h4 : SqT K (upd H3 t4 (.tup [.str (wd h)])) t4 [.str (wd h)] := .inl (.inl upd_same)
    generalize upd H3 t4 (.tup [.str (wd h)]) = H4 at *
    refine ⟨_, rfl, .inl ⟨b, _, rfl, .inl (.inl (s4 _ _ hb2)), fun t6 ht6 => ?_⟩⟩
    have s5 := same_new (o := .tup us) ht6
    refine cat_any (sqt_same s5 h4) (.inl (.inl upd_same)) (Nat.le_trans (show 1 + us.length ≤ 200 by omega) (by decide)) fun t5 H6 s6 ht5 => ?_
    cases h with
    | plain w => exact k _ _ _ (S3.trans ((s4.trans s5).trans s6)) ht5 ⟨us, rfl, dps_same ((s4.trans s5).trans s6) _ _ hu2⟩ (by show us.length + 1 ≤ 200; omega)
    | num i => cases eL
    | name i => cases eL
    | lit i => cases eL
    | one _ _ => cases eF
    | fn _ => cases eF
    | bind _ _ => cases eB
    | doo => cases eD
    | call => cases eC
    | op _ => cases eO
end
end K26

namespace K26
open PySem L2 Cm
/-- once in the place of keep at the paths of S -/
def spWord (K : PySem.W.Frag) (n : Nat) : Sp := fun vs H Q _ => ∃ (v : V) (b l : Addr) (S : List (List Int)) (ss : List V) (t : Tr) (pre : List Int), vs = [v, .ref b, .ref l, .str "once"] ∧ Dp K H v t.enc ∧ t.ok ∧ t.dep ≤ n ∧ SqT K H b (pre.map V.int) ∧ pre.length + n ≤ 1000 ∧
  H l = some (.lst ss) ∧ DpAll K H ss (S.map pathI) ∧ ∀ (r : V) (H' : Hp), Same H H' → Dp K H' r (t.rw S pre).enc → Q r H'
theorem items_reword {K : PySem.W.Frag} {H : Hp} {ds : List PyData} {h : Hd} {its : List V} (b : Bool) (x : Items K H ds h its) : Items K H ds (reword b h) (.str (wd (reword b h)) :: its.drop 1) := by
  cases h with
  | num i => obtain rfl := (show its = _ from x); exact rfl
  | name i => obtain rfl := (show its = _ from x); exact rfl
  | lit i => obtain rfl := (show its = _ from x); exact rfl
  | one w i =>
    obtain ⟨vs, rfl, hv⟩ := x
    have e : reword b (.one w i) = if b = true ∧ w = "keep" then .one "once" i else .one w i := rfl
    rw [e]
    split
    · exact ⟨vs, rfl, hv⟩
    · exact ⟨vs, rfl, hv⟩
  | fn xs => obtain ⟨q, vs, rfl, hq, hv⟩ := x; exact ⟨q, vs, rfl, hq, hv⟩
  | bind w xs => obtain ⟨q, rows, vs, rfl, hq, hr, hv⟩ := x; exact ⟨q, rows, vs, rfl, hq, hr, hv⟩
  | doo => obtain ⟨q, vs, rfl, hq, hv⟩ := x; exact ⟨q, vs, rfl, hq, hv⟩
  | call => obtain ⟨q, us, vs, rfl, hu, hq, hv⟩ := x; exact ⟨q, us, vs, rfl, hu, hq, hv⟩
  | op o => obtain ⟨q, vs, rfl, hq, hv⟩ := x; exact ⟨q, vs, rfl, hq, hv⟩
  | plain w => obtain ⟨vs, rfl, hv⟩ := x; exact ⟨vs, rfl, hv⟩
theorem wd_keep {h : Hd} (k : isKeep h = true) : ∃ x, h = .one "keep" x := by
  cases h with
  | one w x => exact ⟨x, by rw [of_decide_eq_true (show decide (w = "keep") = true from k)]⟩
  | _ => cases k
theorem reword_no {b : Bool} {h : Hd} (k : isKeep h = false) : reword b h = h := by
  cases h with
  | one w x =>
    have : ¬ w = "keep" := of_decide_eq_false (show decide (w = "keep") = false from k)
    show (if b = true ∧ w = "keep" then Hd.one "once" x else Hd.one w x) = _
    rw [if_neg (fun z => this z.2)]
  | _ => rfl
theorem reword_false (h : Hd) : reword false h = h := by
  cases h with
  | one w x =>
    show (if false = true ∧ w = "keep" then Hd.one "once" x else Hd.one w x) = _
    rw [if_neg (fun z => by cases z.1)]
  | _ => rfl
section
variable {P : Program} {w : World} {K : PySem.W.Frag} {mg : Str → Option Value} {base : Heap}
abbrev s_l_worded : Stmt := top 23
abbrev N_l_worded : List Str := ["_law_tree", "_law_path", "_law_paths_here", "_law_word", "_law_word_here", "_law_inner", "_law_at", "_law_part"]
theorem sc_l_worded : FnScope N_l_worded ["_law_tree", "_law_path", "_law_paths_here", "_law_word"] (defScope s_l_worded) := ⟨rfl, rfl, rfl, by decide +kernel, rfl, by decide +kernel, by decide +kernel⟩
theorem ok_worded (T : Txt mg) (c_l_parts : Cl P w K mg base 1 "_law_parts" (spPartsL K)) (c_l_joined : Cl P w K mg base 1 "_law_joined" (spJoin K)) (D : At K mg "_law_worded" s_l_worded ["_law_tree", "_law_path", "_law_paths_here", "_law_word"]) :
    ∀ n, Cl P w K mg base (n + 2) "_law_worded" (spWord K n) := by
  intro n
  induction n with
  | zero =>
    refine cl_of D sc_l_worded (fun vs H Q E h => ?_) fun f cdv A outer s H vs Q E hr h => ?_
    · obtain ⟨v, b, l, S, ss, t, pre, rfl, _⟩ := h
      rfl
    · obtain ⟨v, b, l, S, ss, t, pre, _, _, _, z, _⟩ := h
      cases t with
      | mk hd ps => exact absurd z (by show ¬ (Tr.deps ps + 1 ≤ 0); omega)
  | succ n ih =>
    refine cl_of D sc_l_worded (fun vs H Q E h => ?_) fun f cdv A outer s H vs Q E hr h => ?_
    · obtain ⟨v, b, l, S, ss, t, pre, rfl, _⟩ := h
      rfl
    · obtain ⟨v, b, l, S, ss, t, pre, rfl, hd, o, hdep, hb, hpl, hl, hss, k⟩ := h
      cases t with
      | mk h ps =>
      obtain ⟨o1, o2, o3⟩ := ok_mk o
      obtain ⟨a, its, rfl, hs, hx⟩ := view hd
      refine ⟨_, (pss_mid (ps_set (i := 4) sc_l_worded.nd rfl (Or.inl rfl) (pe_ifExp (PW.pt (pw_and (pt_cmpR (op_inD (room65 hr)) (pv 1) (pv 2) (by rfl)) (pw_and1 (pt_cmpR op_eq (pe_ix ix_tup (pv 0) pe_int (fun _ _ => rfl)) pe_str (nomark _))))) (pv 3) (pe_ix ix_tup (pv 0) pe_int (fun _ _ => rfl))))
      (pss_cons (ps_setLc (i := 5) (own := [("_law_at", 6), ("_law_part", 7)]) (g := gTup K 2 (gCons (gName 6) (gCons (gName 7) gNil))) rfl sc_l_worded.nd rfl rfl (sw_true rfl rfl rfl (by decide +kernel)) (pi_enum (by rfl) T.enumerate (pa_cons (pe_c c_l_parts hr (by omega) (by rfl) (pa_cons (pv 0) pa_nil)) pa_nil)) (blkOk_by (N := N_l_worded) (sc := defScope s_l_worded) (by decide +kernel))
      (fun _ _ _ _ _ => (pg_tup rfl (pgs_cons (pg_name (i := 6) sc_l_worded.nd rfl (Or.inl rfl)) (pgs_cons (pg_name (i := 7) sc_l_worded.nd rfl (Or.inl rfl)) pgs_nil))))
      (fun _ _ _ _ _ => pts_nil)
      (fun _ _ _ _ _ => (pe_c ih hr (by omega) (by rfl) (pa_cons (pv 7) (pa_cons (pe_op (ko_catA (K := K)) (pv 1) (pe_tup (pa_cons (pv 6) pa_nil))) (pa_cons (pv 2) (pa_cons (pv 3) pa_nil)))))))
      (pss_one (ps_ret (pe_op op_catA (pe_tup (pa_cons (pv 4) pa_nil)) (pe_slice sl_tupA (pe_c c_l_joined hr (by omega) (by rfl) (pa_cons (pv 0) (pa_cons (pv 5) pa_nil))) (po_some pe_int) po_none)))))), ?_⟩
      refine ⟨fun σ' H' => σ' = [some (.ref a), some (.ref b), some (.ref l), some (.str "once"), some (.str (wd (reword (decide (pre ∈ S)) h))), none, none, none] ∧ H' = H, ?_, ?_⟩
      · refine ⟨_, rfl, _, rfl, _, _, dp_pathI hb, .lst (.inl (.inl hl)) hss, (lay_path pre).sh (by decide), (lay_paths S).sh (by decide), _, rfl, ?_⟩
        rw [any_path]
        cases eS : decide (pre ∈ S) with
        | false =>
          refine iteF ⟨_, rfl, a, its, _, _, rfl, rfl, hs, hx.head, ?_⟩
          rw [reword_false]
          exact ⟨rfl, rfl⟩
        | true =>
          refine iteT ⟨_, rfl, a, its, _, _, rfl, rfl, hs, hx.head, rfl, _, rfl, ?_⟩
          rw [eq_keep o1]
          cases eb : isKeep h with
          | true =>
            refine iteT ⟨_, rfl, ?_⟩
            obtain ⟨x, rfl⟩ := wd_keep eb
            exact ⟨rfl, rfl⟩
          | false =>
            refine iteF ⟨_, rfl, a, its, _, _, rfl, rfl, hs, hx.head, ?_⟩
            rw [reword_no eb]
            exact ⟨rfl, rfl⟩
      · rintro σ' H0 ⟨rfl, rfl⟩
        refine ⟨_, rfl, .ref a, h, Tr.encL ps, rfl, hd, by rw [encL_len]; exact o1, flat_encL ps, by rw [encL_len]; omega, fun pl us H1 s1 npl hpl1 hu => ?_⟩
        have hul := DpAll.len hu
        rw [encL_len] at hul
        refine ⟨pl, us, rfl, .inl (.inl hpl1), fun L hL => ?_⟩
        refine lc_data (K := K) (walk_enum (xs := us)) (fun i => ((Tr.rwL S pre 0 ps)[i]?).map Tr.enc) hL (by omega) (fun H' s => .inl (.inl (s _ _ hpl1))) (fun i _ d e => ?_) ?_ ?_
        · obtain ⟨c, _, rfl⟩ := Option.map_eq_some_iff.mp e
          exact flat_enc c
        · rintro i x H2 H3 hi s2 ⟨T1, x1, x2, rfl, hT, rfl, e1, e2⟩ Q1 Q0 q1 q0
          cases e1
          have s3 := same_new (o := .tup [.int (i : Nat), x2]) hT
          obtain ⟨d, g1, g2⟩ := DpAll.atV hu e2
          obtain ⟨c, ec, rfl⟩ := encL_at g1
          have hcm : c ∈ ps := List.mem_of_getElem? ec
          have S3 := (s1.trans s2).trans s3
          refine ⟨T1, _, rfl, .inl (.inl upd_same), rfl, _, _, rfl, _, _, rfl, rfl, rfl, ?_⟩
          have g3 := dp_same (s2.trans s3) _ _ g2
          generalize upd H2 T1 (.tup [.int (i : Nat), x2]) = H3 at *
          refine ⟨_, rfl, _, rfl, _, rfl, by show 1 ≤ sizeLine; decide, fun t4 ht4 => ?_⟩
          have s4 := same_new (o := .tup [.int (i : Nat)]) ht4
          refine cat_any (sqt_same (S3.trans s4) hb) (.inl (.inl upd_same)) (by rw [List.length_map]; exact Nat.le_trans (show pre.length + 1 ≤ 2000 by omega) (by decide)) fun t5 H5 s5 ht5 => ?_
          have s45 := s4.trans s5
          have hpre : SqT K H5 t5 ((pre ++ [((i : Nat) : Int)]).map V.int) := by rw [List.map_append]; exact ht5
          refine ⟨_, rfl, _, rfl, x2, t5, l, S, ss, c, pre ++ [((i : Nat) : Int)], rfl, dp_same s45 _ _ g3, o3 c hcm, dep_mk.mp hdep c hcm, hpre, by rw [List.length_append, List.length_singleton]; omega, (S3.trans s45) _ _ hl, dps_same (S3.trans s45) _ _ hss, fun r H6 s6 hr6 => ?_⟩
          refine q1 _ _ _ ?_ ((s3.trans s45).trans s6) hr6
          rw [rwL_at, ec, Nat.zero_add]
          rfl
        · intro H2 acc s2 hacc ha2
          have en : us.length = (Tr.rwL S pre 0 ps).length := by rw [rwL_len, hul]
          rw [en, range_map, ← encL_map] at ha2
          have S2 := s1.trans s2
          refine ⟨_, rfl, by show 1 ≤ sizeLine; decide, fun t3 ht3 => ?_⟩
          have s3 := same_new (o := .tup [.str (wd (reword (decide (pre ∈ S)) h))]) ht3
          have h3 : SqT K (upd H2 t3 (.tup [.str (wd (reword (decide (pre ∈ S)) h))])) t3 [.str (wd (reword (decide (pre ∈ S)) h))] := .inl (.inl upd_same)
          generalize upd H2 t3 (.tup [.str (wd (reword (decide (pre ∈ S)) h))]) = H3 at *
          refine ⟨_, rfl, _, rfl, .ref a, L, h, Tr.encL ps, Tr.encL (Tr.rwL S pre 0 ps), acc, rfl, dp_same (S2.trans s3) _ _ hd, by rw [encL_len]; exact o1, by rw [encL_len, encL_len, rwL_len], by rw [encL_len, rwL_len]; omega, flat_encL _, s3 _ _ hacc, dps_same s3 _ _ ha2, fun r jt H4 s4 hr4 hx4 hjl => ?_⟩
          have hj1 : 1 ≤ jt.length := by
            have := hx4.head
            cases jt with
            | nil => cases this
            | cons => rw [List.length_cons]; omega
          refine ⟨1, rfl, ?_⟩
          refine sl_from (k := 1) hr4 hj1 fun t5 H5 s5 ht5 => ?_
          refine cat_any (sqt_same (s4.trans s5) h3) ht5 (by rw [List.length_drop]; exact Nat.le_trans (show 1 + (jt.length - 1) ≤ 300 by omega) (by decide)) fun t6 H6 s6 ht6 => ?_
          refine k _ _ (((S2.trans s3).trans (s4.trans s5)).trans s6) ?_
          exact unview (h := reword (decide (pre ∈ S)) h) ht6 (items_reword _ (hx4.same (s5.trans s6)))
end
end K26

set_option linter.all false
/-! the block of the guide's skeleton 42 (an own error with a field of its own), for NoKeep -/
namespace PySem
namespace LowX
open PySem.W PySem.Calls PyProof.Rows PySem.HandSPX
/-! ### the text of __init__ -/
def iA (p1 p2 : Pos) : Arguments := { posonlyargs := [], args := [{ arg := "self", annotation := none, pos := p1 }, { arg := "path", annotation := none, pos := p2 }], vararg := none, kwonlyargs := [], kw_defaults := [], kwarg := none, defaults := [] }
def iB (q1 q2 q3 q4 : Pos) : List Stmt := [.Assign [.Attribute (.Name "self" q1) "path" q2] (.Name "path" q3) q4]
def iS : Scope := { kind := .function, names := [(PySem.Str.ofString "self", .local), (PySem.Str.ofString "path", .local)], isGenerator := false, isCoroutine := false, more := [] }
/-- what the written part says of Low, at C, and of its __init__, at fI -/
structure LowTxt (K : Frag) (mg : Str → Option Value) (C fI : Addr) : Prop where
  gC : mg "NoKeep" = some (.ref C)
  cls : ∃ nm q N bs bm sn sub ab col dd k0 k1 k2 k3 k5, K.lookup C = some (excClassObj nm q C N bs bm true sn sub ab col dd k0 k1 k2 k3 k5 "ValueError.__new__") ∧ refsVE bm = true
  sa : findIn K (.ref C) "__setattr__" = some (some (.builtin "object.__setattr__"))
  ga : findIn K (.ref C) "__getattribute__" = some (some (.builtin "BaseException.__getattribute__"))
  gg : findIn K (.ref C) "__getattr__" = some none
  noN : findIn K (.ref C) "path" = some none
  iC : findIn K (.ref C) "__init__" = some (some (.ref fI))
  tC : typeIn K (.ref fI) = some (.type "function")
  kC : keepIn K (.ref C) = true
  exC : subIn K (.ref C) (.type "BaseException") = some true
  tyC : typeIn K (.ref C) = some (.type "type")
  hdC : hasDictIn K C = true
  te : exmOne K (.ref C) (.ref C) = some true
  fn : ∃ (oc : Value) (od : Option Addr) (doc pm : Value) (an : Option Addr) (cdv ct : Value) (osl : Array (Option Value)) (p1 p2 q1 q2 q3 q4 : Pos),
    K.lookup fI = some ⟨oc, od, .func (fnOf "__init__" "NoKeep.__init__" (iA p1 p2) (iB q1 q2 q3 q4) iS .none .none doc pm an cdv ct), osl⟩ ∧ codeIn K cdv "NoKeep.__init__" = true
theorem one_size (v : Value) : [v].length ≤ sizeLine := by
  rw [sizeLine_eq]
  exact (by decide : 1 ≤ 16777216)
theorem kept_but {K : Frag} {h h' : Heap} {x : Addr} (X : K.In h) (hx : K.lookup x = none) (k : ∀ b o, b ≠ x → h.get? b = some o → h'.get? b = some o) : K.In h' := fun a o e =>
  k a o (fun z => by rw [z, hx] at e; cases e) (X a o e)
theorem ldC {M : Model} {s : Shared} {name : Str} {scope : Scope} {L a : Addr} {cd : Value} {m : Str → Option Value} {x : Str} {pos : Pos} {v : Value} {Q : Value → Shared → Prop} {A : Around} {E : Value → Shared → Prop} (hn : s.heap.Ns L m) (hv : m x = some v) (h : Q v s)
    (hk : scope.kind = .function := by rfl) (hl : (envOfC name scope L a cd).kindOf x = some .local := by rfl) (hd : (x == ("__debug__" : Str)) = false := by decide) :
    wpAny M A (eval (.Name x pos) (envOfC name scope L a cd)) Q E s := wpAny_Name (wpAny_loadName_local hk hl hn hv h) hd
/-- what __init__ leaves of a fresh exception at x -/
structure InitEnd (h h' : Heap) (x C dx t1 : Addr) (v : Value) : Prop where
  keep : ∀ b o, b ≠ x → h.get? b = some o → h'.get? b = some o
  obj : h'.get? x = some { cls := .ref C, dict := some dx, data := .fields #[.ref t1, .none, .none, .none, .bool false, .none] }
  dbig : h.objs.size ≤ dx
  dne : dx ≠ x
  ns : h'.Ns1 dx (fun y => if y = "path" then some v else none)
/-- a made Low -/
structure OwnMade (h h' : Heap) (e C d : Addr) (v : Value) : Prop where
  keep : ∀ b o, h.get? b = some o → h'.get? b = some o
  new : h.objs.size ≤ e
  obj : ∃ oe vs, h'.get? e = some oe ∧ oe.cls = .ref C ∧ oe.dict = some d ∧ oe.data = .fields vs ∧ vs[1]? = some .none
  dbig : h.objs.size ≤ d
  dne : d ≠ e
  ns : h'.Ns1 d (fun y => if y = "path" then some v else none)
section
variable {prog : Program} {w : World} {A : Around} {E : Value → Shared → Prop} {R : Result → Shared → Prop} {s : Shared} {K : Frag} {mg : Str → Option Value} {C fI : Addr}
theorem low_init (T : LowTxt K mg C fI) {x t0 : Addr} {v : Value} (X : K.In s.heap) (hlim : s.heap.NoLimit) (hx : s.heap.get? x = some (excO C t0)) (hnx : K.lookup x = none) (hroom : A.depth < recursionLimit)
    (hq : ∀ h' tk dx, InitEnd s.heap h' x C dx t0 v → R (.ok (.ret .none)) { s with heap := h', toks := tk }) :
    codeAny (model prog w) A (.call (.ref fI) ⟨[.ref x, v], []⟩) R s := by
  obtain ⟨oc, od, doc, pm, an, cdv, ct, osl, p1, p2, q1, q2, q3, q4, ho, hcd⟩ := T.fn
  obtain ⟨nm, q, N, bs, bm, sn, sub, ab, col, dd, k0, k1, k2, k3, k5, hC, hbm⟩ := T.cls
  have hcl : clsIn K C = some { name := nm, bases := bs, mro := .ref C :: bm, ns := N, qualname := q, hasDict := true, slotNames := sn, subclasses := sub, abstract := ab, collection := col, hasDel := false } := by unfold clsIn; rw [hC] <;> rfl
  refine Att.call_fn (binds := [("self", .ref x), ("path", v)]) X hlim ho hcd hroom (BindsTo.of_eq (by first | rfl | with_unfolding_all rfl)) (by first | rfl | decide | with_unfolding_all rfl) (fun s₁ IC => ?_) rfl rfl rfl
  obtain ⟨h₁, tk₁, rfl⟩ := IC.toInCall.same
  have k : ∀ b o, s.heap.get? b = some o → h₁.get? b = some o := IC.toInCall.keep
  have hn := IC.toInCall.ns
  have hxL : s.heap.objs.size ≠ x := Nat.ne_of_gt (Heap.lt_size hx)
  have X₁ : K.In h₁ := X.keeps k
  have hx₁ := k _ _ hx
  -- self.by = by
  show wpAny _ _ (execs _ _) _ _ _
  refine wpAny_execs_cons (plainObj_wpAny_Assign_Attribute ?_)
  refine ldC (v := v) hn (by first | rfl | with_unfolding_all rfl | kernel_rfl) (ldC (v := .ref x) hn (by first | rfl | with_unfolding_all rfl | kernel_rfl) ?_)
  refine set_plain X₁ (ox := excO C t0) (od := none) ⟨hx₁, rfl, rfl, trivial⟩ T.sa ?_
  refine exc_osa X₁ hx₁ hcl (show refsVE (.ref C :: bm) = true from hbm) rfl T.noN (fun h₃ tk₃ dx k₃ dn dne hx₃ hn₃ => ?_)
  show wpAny _ _ (execs _ _) _ _ _
  have z : s.heap.objs.size < h₁.objs.size := hn.lt
  exact wpAny_execs_nil (hq h₃ tk₃ dx ⟨fun b o hb e => k₃ b o hb (k b o e), hx₃, Nat.le_of_lt (Nat.lt_of_lt_of_le z dn), dne, hn₃⟩)
theorem low_made (T : LowTxt K mg C fI) {v : Value} (X : K.In s.heap) (hlim : s.heap.NoLimit) (hroom : A.depth + 1 < recursionLimit)
    (hq : ∀ h' tk e d, OwnMade s.heap h' e C d v → R (.ok (.ret (.ref e))) { s with heap := h', toks := tk }) :
    codeAny (model prog w) A (.call (.ref C) ⟨[v], []⟩) R s := by
  obtain ⟨nm, q, N, bs, bm, sn, sub, ab, col, dd, k0, k1, k2, k3, k5, hC, hbm⟩ := T.cls
  obtain ⟨hp, g, dr, tk, os⟩ := s
  have k : ∀ b o, hp.get? b = some o → ((hp.push (kdv_tup [v])).push (excO C hp.objs.size)).get? b = some o := fun b o e => Heap.get?_push_of_some _ (Heap.get?_push_of_some _ e)
  have hget : ((hp.push (kdv_tup [v])).push (excO C hp.objs.size)).get? (hp.objs.size + 1) = some (excO C hp.objs.size) := by heap_get
  have hnx : K.lookup (hp.objs.size + 1) = none := by
    cases e : K.lookup (hp.objs.size + 1) with
    | none => rfl
    | some o =>
      have z : hp.get? (hp.objs.size + 1) = some o := X _ _ e
      exact absurd (Nat.lt_of_succ_lt (Heap.lt_size z)) (Nat.lt_irrefl _)
  refine call_own F.excBase_ValueError (fun X => refsVE_contains X bm hbm) (X _ _ hC) (looks_findIn X T.iC) (fun self => bind_fn X self T.tC) (one_size v) ?_
  refine low_init (s := ⟨(hp.push (kdv_tup [v])).push (excO C hp.objs.size), g, dr, tk, os⟩) T (X.keeps k) (hlim.keeps k) hget hnx ?_ fun h' tk' dx ⟨k', hx, dn, dne, hns⟩ => ?_
  · show A.depth + 1 < recursionLimit
    exact hroom
  · have old : ∀ b o, hp.get? b = some o → h'.get? b = some o := fun b o e => k' b o (Nat.ne_of_lt (Nat.lt_succ_of_lt (Heap.lt_size e))) (k b o e)
    have z : hp.objs.size + 1 + 1 ≤ dx := by
      first
        | (simpa only [Heap.size_push] using dn)
        | exact dn
        | (have q := dn; rw [Heap.size_push, Heap.size_push] at q; exact q)
    exact ⟨rfl, hq h' tk' (hp.objs.size + 1) dx ⟨old, Nat.le_succ _, ⟨_, _, hx, rfl, rfl, rfl, rfl⟩, Nat.le_trans (Nat.le_trans (Nat.le_succ _) (Nat.le_succ _)) z, dne, hns⟩⟩
end
end LowX
end PySem
namespace L2
open PySem PySem.Spec PyProof.Rows
theorem relO_low {v : V} {v' : Value} (r : RelV v v') (f : Str) : RelO (List.lookup f [(("path" : Str), v)]) (if f = "path" then some v' else none) := by
  by_cases hw : f = "path"
  · subst hw
    rw [if_pos rfl]
    have q : List.lookup ("path" : Str) [(("path" : Str), v)] = some v := by simp [List.lookup]
    rw [q]
    exact r
  · rw [if_neg hw]
    have qw : (f == ("path" : Str)) = false := by simpa using hw
    have q2 : List.lookup f [(("path" : Str), v)] = none := by simp [List.lookup, qw]
    rw [q2]
    trivial
section
variable {X : Cx} {C fI : Addr}
/-- Low(e) -/
def tMkLow (C : Addr) (ta : TA) : St → Hp → XK → Prop := fun σ H Q => ta σ H fun vs H1 => ∃ v, vs = [v] ∧ ∀ d, H1 d = none → Q (.ref C) (some d) (upd H1 d (.xd [(("path" : Str), v)]))
theorem pmk_low {a : Expr} {ta : TA} {p pos : Pos} {k : Nat} (T : PySem.LowX.LowTxt X.K X.mg C fI) (hr : Room k X.A) (ha : PA X [a] ta) (hg : Gl X "NoKeep" := by rfl)
    (he : starEach (a :: []) X.env = (false, eval a X.env) :: starEach [] X.env := by rfl) (hpl : (backTo pos (starEach [] X.env)).any (·.1) = false := by rfl) :
    PMk X (.Call (.Name "NoKeep" p) [a] [] pos) (tMkLow C ta) := by
  intro pins s σ H Q I h
  refine wpAny_Call_Name_kw (ld_glob I hg T.gC ?_)
  refine PySem.W.callWith_K (h₀ := X.base) I.ok.mod.kin T.kC (thn (ha.run pos pins s σ H _ I h) fun us s1 hh => ?_) he hpl
  obtain ⟨vs, H1, I1, r1, v, ev, q1⟩ := hh
  subst ev
  refine ⟨I1.kIn, ?_⟩
  cases r1 with
  | cons rv rn =>
    rename_i v' us'
    cases rn
    show wpAny _ _ (call (.ref C) [v']) _ _ _
    have hlim := I1.nolimit
    obtain ⟨hp, g, dr, tk, os⟩ := s1
    refine wpAny_call (PySem.LowX.low_made T I1.kIn hlim (by have := hr.dp; omega) fun h' tk' e d M => ?_)
    show MkP X pins σ Q (.ref e) ⟨h', g, dr, tk', os⟩
    obtain ⟨oe, fv, hoe, hc, hd, hdat, h1⟩ := M.obj
    have hns := M.ns
    obtain ⟨G', g1, g2⟩ := restrict h' fun b => decide (b ≠ e)
    have gk : ∀ b, b ≠ e → G'.get? b = h'.get? b := fun b hb => g1 b (decide_eq_true hb)
    have ge : G'.get? e = none := g2 e (by simp)
    have old : ∀ b o, hp.get? b = some o → G'.get? b = some o := fun b o q => (gk b (Nat.ne_of_lt (Nat.lt_of_lt_of_le (Heap.lt_size q) M.new))).trans (M.keep b o q)
    have ob : ObjOk X.prog X.w (upd H1 d (.xd [(("path" : Str), v)])) G' d (.xd [(("path" : Str), v)]) :=
      ⟨_, hns.at (fun o q => (gk d M.dne).trans q), fun f => relO_low rv f⟩
    have J : Inv X pins σ (upd H1 d (.xd [(("path" : Str), v)])) ⟨G', g, dr, tk', os⟩ := I1.laid (t' := tk') old M.dbig ob
    refine ⟨e, oe, fv, ⟨G', g, dr, tk', os⟩, _, .ref C, some d, rfl, J, fun b o q => ?_, ge, hoe, ⟨hc, hd⟩, hdat, h1, ?_, rfl, I1.bare, raises_own T.exC T.tyC, q1 d (I1.hok.fresh M.dbig)⟩
    · by_cases hb : b = e
      · have q' : G'.get? b = some o := q
        rw [hb, ge] at q'; cases q'
      · exact (gk b hb).symm.trans q
    · rw [upd_ne (Ne.symm M.dne)]
      exact I1.hok.fresh M.new
/-- raise Low(e) -/
def tRaiseLow (C : Addr) (W : WX) (ta : TA) : TS := fun _ σ H => tMkLow C ta σ H fun cls d H' => W cls d σ H'
theorem ps_raiseLow {a : Expr} {ta : TA} {W : WX} {p pos pos2 : Pos} {k : Nat} (hc : X.calm = true) (T : PySem.LowX.LowTxt X.K X.mg C fI) (hr : Room k X.A) (tk : Takes X W) (ha : PA X [a] ta) (hg : Gl X "NoKeep" := by rfl)
    (he : starEach (a :: []) X.env = (false, eval a X.env) :: starEach [] X.env := by rfl) (hpl : (backTo pos (starEach [] X.env)).any (·.1) = false := by rfl) :
    PS X (.Raise (some (.Call (.Name "NoKeep" p) [a] [] pos)) none pos2) (tRaiseLow C W ta) := ps_raise hc tk (pmk_low T hr ha hg he hpl)
end
end L2

namespace Cm
open PySem L2 PySem.Spec PyProof.Rows
/-- a path: a list or a tuple of ints -/
def PathV (K : PySem.W.Frag) (H : Hp) (v : V) (p : List Int) : Prop := ∃ q, v = .ref q ∧ (SqL K H q (p.map V.int) ∨ SqT K H q (p.map V.int))
theorem PathV.same {K : PySem.W.Frag} {H H' : Hp} {v : V} {p : List Int} (s : Same H H') (x : PathV K H v p) : PathV K H' v p := by
  obtain ⟨q, e, h⟩ := x
  exact ⟨q, e, h.elim (fun h => .inl (s.seq h)) fun h => .inr (sqt_same s h)⟩
theorem hok_reword {b : Bool} {h : Hd} {n : Nat} (o : hok h n) : hok (reword b h) n := by
  cases h with
  | one w x =>
    show hok (if b = true ∧ w = "keep" then Hd.one "once" x else Hd.one w x) n
    split
    · exact ⟨o.1, by decide +kernel, o.2.2⟩
    · exact o
  | num i => exact o
  | name i => exact o
  | lit i => exact o
  | fn i => exact o
  | bind i _ => exact o
  | doo => exact o
  | call => exact o
  | op i => exact o
  | plain i => exact o
theorem rw_ok {S : List (List Int)} (t : Tr) : ∀ pre, t.ok → (t.rw S pre).ok := by
  refine tr_ind (P := fun t => ∀ pre, t.ok → (t.rw S pre).ok) (fun h ps ih pre o => ?_) t
  have o' : hok h ps.length ∧ ps.length ≤ 11 ∧ Tr.oks ps := o
  have e : (Tr.mk h ps).rw S pre = .mk (reword (decide (pre ∈ S)) h) (Tr.rwL S pre 0 ps) := rfl
  rw [e]
  refine ⟨by rw [rwL_len]; exact hok_reword o'.1, by rw [rwL_len]; exact o'.2.1, oks_iff.mpr fun u hu => ?_⟩
  obtain ⟨j, hj⟩ := List.mem_iff_getElem?.mp hu
  rw [rwL_at] at hj
  obtain ⟨c, ec, rfl⟩ := Option.map_eq_some_iff.mp hj
  have hc := List.mem_of_getElem? ec
  exact ih c hc _ (oks_iff.mp o'.2.2 c hc)
theorem rw_nil (t : Tr) : ∀ pre, t.rw [] pre = t := by
  refine tr_ind (P := fun t => ∀ pre, t.rw [] pre = t) (fun h ps ih pre => ?_) t
  show Tr.mk (reword (decide (pre ∈ ([] : List (List Int)))) h) (Tr.rwL [] pre 0 ps) = _
  have e1 : reword (decide (pre ∈ ([] : List (List Int)))) h = h := by
    have : decide (pre ∈ ([] : List (List Int))) = false := decide_eq_false (List.not_mem_nil)
    rw [this]
    cases h with
    | one w x =>
      show (if false = true ∧ w = "keep" then Hd.one "once" x else Hd.one w x) = _
      rw [if_neg (fun z => by cases z.1)]
    | _ => rfl
  rw [e1]
  congr 1
  refine List.ext_getElem? fun j => ?_
  rw [rwL_at]
  cases ej : ps[j]? with
  | none => rfl
  | some c =>
    show some _ = some c
    rw [ih c (List.mem_of_getElem? ej)]
structure ClX (P : Program) (w : World) (K : PySem.W.Frag) (mg : Str → Option Value) (base : Heap) (k : Nat) (x : Str) (sp : Sp) : Prop where
  ex : ∃ (f : Addr) (fd : FuncData) (ps : List Str), FnOk P w K mg base (L2.CX P w) k f fd ps sp ∧ mg x = some (.ref f) ∧ PySem.W.keepIn K (.ref f) = true ∧ Binds K fd ps []
section
variable {P : Program} {w : World} {K : PySem.W.Frag} {mg : Str → Option Value} {base : Heap}
theorem clX_of {x : Str} {st : Stmt} {N ps : List Str} {k : Nat} {sp : Sp} (T : At K mg x st ps) (S : FnScope N ps (defScope st))
    (len : ∀ vs H Q E, sp vs H Q E → vs.length = ps.length)
    (hb : ∀ (f : Addr) (cdv : Value) (A : Around) (outer : List Env) (s : Shared) (H : Hp) (vs : List V) (Q : VK) (E : XK),
      Room k (A.deeper (envOfC x (defScope st) s.heap.objs.size f cdv)) → sp vs H Q E →
      ∃ t, PSs (cxOf (L2.CX P w) P w K mg base N x (defScope st) f cdv A outer s H E) (defBody st) t ∧ t { nx := fun _ H' => Q .non H', rt := Q } (start N vs) H) :
    ClX P w K mg base (k + 1) x sp := by
  obtain ⟨f, fd, F, hm, b⟩ := T.ex
  exact ⟨f, fd, ps, F.okX S len (hb f), hm, F.kp, b⟩
end
section
variable {X : Cx} {j k : Nat} {x : Str} {sp : Sp} {e : Expr} {es : List Expr} {t : TA} {p pos : Pos}
/-- a call that lets nothing out -/
theorem pe_cL (c : ClX X.prog X.w X.K X.mg X.base k x sp) (hr : Room j X.A) (hk : k ≤ j) (hg : Gl X x) (ha : PA X (e :: es) t)
    (hdb : (x == ("__debug__" : Str)) = false := by decide) (he : starEach (e :: es) X.env = (false, eval e X.env) :: starEach es X.env := by rfl)
    (hpl : (backTo pos (starEach es X.env)).any (·.1) = false := by rfl) : PE X (.Call (.Name x p) (e :: es) [] pos) (tCall sp [] E0 t) := by
  obtain ⟨f, fd, ps, F, hm, kp, b⟩ := c.ex
  exact pe_call F (hr.mono hk) hg hm kp b .nil passL ha hdb he hpl
/-- a call in a try -/
theorem pe_cS {W : WX} (c : ClX X.prog X.w X.K X.mg X.base k x sp) (hr : Room j X.A) (hk : k ≤ j) (hg : Gl X x) (tk : Takes X W) (ha : PA X (e :: es) t)
    (hdb : (x == ("__debug__" : Str)) = false := by decide) (he : starEach (e :: es) X.env = (false, eval e X.env) :: starEach es X.env := by rfl)
    (hpl : (backTo pos (starEach es X.env)).any (·.1) = false := by rfl) : PE X (.Call (.Name x p) (e :: es) [] pos) (tCallS sp (WE W) t) := by
  obtain ⟨f, fd, ps, F, hm, kp, b⟩ := c.ex
  exact pe_callS F (hr.mono hk) hg hm kp b (fun σ => passAt tk σ) ha hdb he hpl
end
end Cm
namespace K26
open PySem L2 Cm
/-- once in the place of keep at paths; the first that leads to no keep is told -/
def spOnce (K : PySem.W.Frag) (C : Addr) : Sp := fun vs H Q E => ∃ (v : V) (b : Addr) (t : Tr) (us : List V) (S : List (List Int)), vs = [v, .ref b] ∧ Dp K H v t.enc ∧ t.ok ∧ t.dep ≤ 12 ∧
  (SqL K H b us ∨ SqT K H b us) ∧ us.length = S.length ∧ (∀ (i : Nat) (u : V) (p : List Int), us[i]? = some u → S[i]? = some p → PathV K H u p) ∧
  ((∀ p ∈ S, keepAt t p = true) → ∀ (r : V) (H' : Hp), Same H H' → Dp K H' r (t.rw S []).enc → Q r H') ∧
  ∀ (j : Nat) (p : List Int), S[j]? = some p → keepAt t p = false → (∀ q ∈ S.take j, keepAt t q = true) → ∀ (d tp : Addr) (H' : Hp), Same H H' → H' d = some (.xd [(("path" : Str), .ref tp)]) → SqT K H' tp (p.map V.int) → E (.ref C) (some d) H'
section
variable {P : Program} {w : World} {K : PySem.W.Frag} {mg : Str → Option Value} {base : Heap} {C fI : Addr}
abbrev s_p_with_once : Stmt := top 11
abbrev N_p_with_once : List Str := ["tree", "paths", "other", "path", "found", "_", "name", "body"]
theorem sc_p_with_once : FnScope N_p_with_once ["tree", "paths"] (defScope s_p_with_once) := ⟨rfl, rfl, rfl, by decide +kernel, rfl, by decide +kernel, by decide +kernel⟩
theorem ok_with_once (T : Txt mg) (low : PySem.LowX.LowTxt K mg C fI) (c_p_tree_at : Cl P w K mg base 2 "tree_at" (spAt K)) (c_p_tree_with : Cl P w K mg base 14 "tree_with" (spPut K 12)) (D : At K mg "with_once" s_p_with_once ["tree", "paths"]) :
    ClX P w K mg base 15 "with_once" (spOnce K C) := by
  refine clX_of D sc_p_with_once (fun vs H Q E h => ?_) fun f cdv A outer s H vs Q E hr h => ?_
  · obtain ⟨v, b, t, us, S, rfl, _⟩ := h
    rfl
  · obtain ⟨v, b, t, us, S, rfl, hd, o, hdep, hb, hlen, hp, kQ, kE⟩ := h
    refine ⟨_, (pss_cons (ps_set (i := 2) sc_p_with_once.nd rfl (Or.inl rfl) (pv 0))
      (pss_cons (ps_for (passes_of rfl) rfl (pi_seq (pv 1)) (pg_name (i := 3) sc_p_with_once.nd rfl (Or.inl rfl))
        (pss_cons (ps_set (i := 4) sc_p_with_once.nd rfl (Or.inl rfl) (pe_c c_p_tree_at hr (by decide) (by rfl) (pa_cons (pv 0) (pa_cons (pv 3) pa_nil))))
        (pss_cons (ps_if (PW.pt (pw_or (pt_cmpR op_isN (pv 4) pe_non (nomark _)) (pw_or1 (pt_cmpR op_ne (pe_ix ix_tup (pv 4) pe_int (fun _ _ => rfl)) pe_str (nomark _)))))
          (pss_one (ps_raiseLow rfl low hr (takes_of rfl rfl rfl rfl) (by exact (pa_cons (pe_tupleOf (by rfl) T.tuple (pv 3)) pa_nil))))
          pss_nil)
        (pss_cons (ps_asg (pe_c c_p_tree_at hr (by decide) (by rfl) (pa_cons (pv 2) (pa_cons (pv 3) pa_nil))) (pg_tup (by rfl) (pgs_cons (pg_name (i := 5) sc_p_with_once.nd rfl (Or.inl rfl)) (pgs_cons (pg_name (i := 6) sc_p_with_once.nd rfl (Or.inl rfl)) (pgs_cons (pg_name (i := 7) sc_p_with_once.nd rfl (Or.inl rfl)) pgs_nil)))))
        (pss_one (ps_set (i := 2) sc_p_with_once.nd rfl (Or.inl rfl) (pe_c c_p_tree_with hr (by decide) (by rfl) (pa_cons (pv 2) (pa_cons (pv 3) (pa_cons (pe_tup (pa_cons pe_str (pa_cons (pv 6) (pa_cons (pv 7) pa_nil)))) pa_nil))))))))))
      (pss_one (ps_ret (pv 2))))), ?_⟩
    refine ⟨_, rfl, ?_⟩
    show tFor (iSeq K (tVar 1)) (gName 3) _ _ _ _
    refine for_seq (xs := us) (fun Q q => ⟨_, rfl, q⟩) hb (fun i σ H' => ∃ (x : V) (v3 v4 v5 v6 v7 : Option V), σ = [some v, some (.ref b), some x, v3, v4, v5, v6, v7] ∧ Same H H' ∧ Dp K H' x (t.rw (S.take i) []).enc ∧ ∀ p ∈ S.take i, keepAt t p = true)
      ⟨v, _, _, _, _, _, rfl, Same.refl H, by rw [List.take_zero, rw_nil]; exact hd, fun p m => by rw [List.take_zero] at m; cases m⟩ (fun i σ H' z => by
        obtain ⟨_, _, _, _, _, _, _, s1, _⟩ := z
        exact s1) ?_ ?_
    · rintro i u σ H1 hi ⟨x, v3, v4, v5, v6, v7, rfl, s1, hx, hk⟩ eu
      obtain ⟨p, ep⟩ : ∃ p, S[i]? = some p := ⟨S[i]'(by omega), List.getElem?_eq_getElem (by omega)⟩
      obtain ⟨q, rfl, hq⟩ := (hp i u p eu ep).same s1
      have et : S.take (i + 1) = S.take i ++ [p] := by rw [List.take_add_one, ep]; rfl
      have bad : ∀ (H2 : Hp), Same H H2 → keepAt t p = false → ∀ (d tp : Addr) (H' : Hp), Same H2 H' → H' d = some (.xd [(("path" : Str), .ref tp)]) → SqT K H' tp (p.map V.int) → E (.ref C) (some d) H' :=
        fun H2 s2 hkf d tp H' s' e1 e2 => kE i p ep hkf (fun z m => hk z m) d tp H' (s2.trans s') e1 e2
      have rz : ∀ (H2 : Hp), Same H H2 → keepAt t p = false → kTup K (.ref q) H2 fun y H3 => ∃ v', [y] = [v'] ∧ ∀ d, H3 d = Option.none → E (.ref C) (some d) (upd H3 d (.xd [(("path" : Str), v')])) := fun H2 s2 hkf => by
        obtain ⟨q', eq', hq'⟩ := (hp i (.ref q) p eu ep).same s2
        cases eq'
        rcases hq' with hq' | hq'
        · refine .inl ⟨q, _, rfl, hq', fun t6 ht6 => ⟨_, rfl, fun d hd => ?_⟩⟩
          have s6 := same_new (o := .tup (p.map V.int)) ht6
          have s7 := same_new (o := .xd [(("path" : Str), .ref t6)]) hd
          exact bad H2 s2 hkf d t6 _ (s6.trans s7) upd_same (sqt_same s7 (.inl (.inl upd_same)))
        · refine .inr ⟨q, _, rfl, hq', ⟨_, rfl, fun d hd => ?_⟩⟩
          have s7 := same_new (o := .xd [(("path" : Str), .ref q)]) hd
          exact bad H2 s2 hkf d q _ s7 upd_same (sqt_same s7 hq')
      refine ⟨_, rfl, _, rfl, v, q, t, p, rfl, dp_same s1 _ _ hd, o, hq, fun H2 s2 en => ?_, fun r sa H2 s2 esa hr2 => ?_⟩
      · have hkf : keepAt t p = false := by unfold keepAt; rw [en]
        refine ⟨_, rfl, rfl, _, rfl, iteT ?_⟩
        exact ⟨_, rfl, rz H2 (s1.trans s2) hkf⟩
      · cases sa with
        | mk h ps =>
        obtain ⟨a, its, rfl, hs, hxx⟩ := view hr2
        have osa := at_ok _ o esa
        obtain ⟨o1, o2, o3⟩ := ok_mk osa
        refine ⟨_, rfl, rfl, _, rfl, iteF ?_⟩
        refine ⟨_, rfl, a, its, _, _, rfl, rfl, hs, hxx.head, rfl, _, rfl, ?_⟩
        rw [eq_keep o1]
        have hka : keepAt t p = isKeep h := by unfold keepAt; rw [esa]; rfl
        cases eb : isKeep h with
        | false => exact iteT ⟨_, rfl, rz H2 (s1.trans s2) (hka.trans eb)⟩
        | true =>
          refine iteF ?_
          obtain ⟨nm, rfl⟩ := wd_keep eb
          obtain ⟨b1, rfl⟩ := one_of (show ps.length = 1 from o1.1)
          obtain ⟨w3, b2, g1, g2⟩ := put_rw (S := S.take i) p [] t nm b1 esa
          have hdp := at_dep p esa
          have h1d : 1 ≤ (Tr.mk (.one "keep" nm) [b1]).dep := by show 1 ≤ Tr.deps [b1] + 1; omega
          have S2 := s1.trans s2
          have hx2 := dp_same s2 _ _ hx
          have hq2 : SqL K H2 q (p.map V.int) ∨ SqT K H2 q (p.map V.int) := hq.elim (fun z => .inl (s2.seq z)) fun z => .inr (sqt_same s2 z)
          refine ⟨_, rfl, _, rfl, x, q, t.rw (S.take i) [], p, rfl, hx2, rw_ok t [] o, hq2, (fun _ _ z => by rw [g1] at z; cases z), fun r3 sa3 H3 s3 e3 hr3 => ?_⟩
          rw [g1] at e3
          cases e3
          obtain ⟨a3, its3, rfl, hs3, hxx3⟩ := view (h := .one w3 nm) (ds := [b2.enc]) hr3
          obtain ⟨vs3, rfl, hv3⟩ := hxx3
          obtain ⟨vb, rfl, hvb⟩ := dpAll_one hv3
          have S3 := S2.trans s3
          have hx3 := dp_same s3 _ _ hx2
          have hq3 : SqL K H3 q (p.map V.int) ∨ SqT K H3 q (p.map V.int) := hq2.elim (fun z => .inl (s3.seq z)) fun z => .inr (sqt_same s3 z)
          refine ⟨a3, _, rfl, hs3, rfl, _, _, rfl, _, _, rfl, _, _, rfl, rfl, ?_⟩
          refine ⟨_, rfl, _, rfl, _, rfl, _, rfl, by show 3 ≤ sizeLine; decide, fun t7 ht7 => ?_⟩
          have s7 := same_new (o := .tup [.str "once", .str nm, vb]) ht7
          have hq7 : SqL K (upd H3 t7 (.tup [.str "once", .str nm, vb])) q (p.map V.int) ∨ SqT K (upd H3 t7 (.tup [.str "once", .str nm, vb])) q (p.map V.int) := hq3.elim (fun z => .inl (s7.seq z)) fun z => .inr (sqt_same s7 z)
          refine ⟨x, .ref t7, q, t.rw (S.take i) [], .mk (.one "once" nm) [b2], p, rfl, dp_same s7 _ _ hx3, rw_ok t [] o, unview (h := .one "once" nm) (ds := [b2.enc]) (.inl (.inl upd_same)) ⟨[vb], rfl, dps_same s7 _ _ hv3⟩, by omega, hq7, ⟨_, g1⟩, fun r4 H4 s4 hr4 => ?_⟩
          rw [g2, List.nil_append, ← et] at hr4
          refine ⟨r4, _, _, _, _, _, rfl, (S3.trans s7).trans s4, hr4, fun z m => ?_⟩
          rw [et] at m
          rcases List.mem_append.mp m with m | m
          · exact hk z m
          · cases List.mem_singleton.mp m
            exact hka.trans eb
    · rintro σ H1 ⟨x, v3, v4, v5, v6, v7, rfl, s1, hx, hk⟩
      rw [hlen, List.take_length] at hx hk
      exact ⟨_, rfl, kQ hk x H1 s1 hx⟩
end
end K26

namespace K26
open PySem L2 Cm
/-- what the law asks of the classes -/
structure Errs (K : PySem.W.Frag) (mg : Str → Option Value) (C R : Addr) : Prop where
  gR : mg "RestsError" = some (.ref R)
  te : PySem.W.exmOne K (.ref C) (.ref R) = some true
  xf : XfC K C
  no : PySem.W.findIn K (.ref C) "path" = some none
/-- the first path that leads to no keep -/
def spRef (K : PySem.W.Frag) : Sp := fun vs H Q _ => ∃ (v : V) (b : Addr) (t : Tr) (us : List V) (S : List (List Int)), vs = [v, .ref b] ∧ Dp K H v t.enc ∧ t.ok ∧ t.dep ≤ 12 ∧
  (SqL K H b us ∨ SqT K H b us) ∧ us.length = S.length ∧ (∀ (i : Nat) (u : V) (p : List Int), us[i]? = some u → S[i]? = some p → PathV K H u p) ∧
  ∃ (j : Nat) (p : List Int), S[j]? = some p ∧ keepAt t p = false ∧ (∀ q ∈ S.take j, keepAt t q = true) ∧ ∀ (tp : Addr) (H' : Hp), Same H H' → SqT K H' tp (p.map V.int) → Q (.ref tp) H'
theorem first_bad {t : Tr} {S : List (List Int)} {j i : Nat} {p q : List Int} (e1 : S[j]? = some p) (b1 : keepAt t p = false) (k1 : ∀ z ∈ S.take j, keepAt t z = true) (e2 : S[i]? = some q) (b2 : keepAt t q = false) (k2 : ∀ z ∈ S.take i, keepAt t z = true) : p = q := by
  have key : ∀ {a b : Nat} {x : List Int}, S[a]? = some x → keepAt t x = false → (∀ z ∈ S.take b, keepAt t z = true) → b ≤ a := fun {a b x} e n k => by
    refine Nat.le_of_not_lt fun h => ?_
    have m : x ∈ S.take b := List.mem_of_getElem? (i := a) (by rw [List.getElem?_take_of_lt h]; exact e)
    rw [k x m] at n
    cases n
  have h1 := key e1 b1 k2
  have h2 := key e2 b2 k1
  have : i = j := by omega
  subst this
  rw [e1] at e2
  exact Option.some.inj e2
section
variable {P : Program} {w : World} {K : PySem.W.Frag} {mg : Str → Option Value} {base : Heap} {C fI R : Addr}
abbrev s_l_refused : Stmt := top 26
abbrev N_l_refused : List Str := ["_law_tree", "_law_paths_here", "_law_told", "e"]
theorem sc_l_refused : FnScope N_l_refused ["_law_tree", "_law_paths_here"] (defScope s_l_refused) := ⟨rfl, rfl, rfl, by decide +kernel, rfl, by decide +kernel, by decide +kernel⟩
theorem ok_refused (T : Txt mg) (low : PySem.LowX.LowTxt K mg C fI) (er : Errs K mg C R) (c_once : ClX P w K mg base 15 "with_once" (spOnce K C)) (D : At K mg "_law_refused" s_l_refused ["_law_tree", "_law_paths_here"]) :
    Cl P w K mg base 16 "_law_refused" (spRef K) := by
  refine cl_of D sc_l_refused (fun vs H Q E h => ?_) fun f cdv A outer s H vs Q E hr h => ?_
  · obtain ⟨v, b, t, us, S, rfl, _⟩ := h
    rfl
  · obtain ⟨v, b, t, us, S, rfl, hd, o, hdep, hb, hlen, hp, j, p, ej, bj, kj, q⟩ := h
    refine ⟨_, (pss_cons (ps_set (i := 2) sc_l_refused.nd rfl (Or.inl rfl) pe_non)
      (pss_mid (ps_try_held (i := 3) (tb := fun W => tDrop (tCallS (spOnce K C) (WE W) (tCons (tVar 0) (tCons (tVar 1) tNil)))) (ts := fun a => tAsg (tVar 3) (gName 2)) rfl rfl sc_l_refused.nd rfl rfl ⟨rfl, by decide, .inl er.gR⟩ rfl
        (fun W pn xe tk _ => pss_one (ps_expr (by exact (pe_cS c_once hr (by decide) (by rfl) tk (pa_cons (pv 0) (pa_cons (pv 1) pa_nil))))))
        (fun a pn => pss_one (ps_set (i := 2) sc_l_refused.nd rfl (Or.inl rfl) (by exact (pv 3)))))
      (pss_cons (ps_if (pt_cmpR op_isN (pv 2) pe_non (nomark _))
        (pss_one (ps_ret pe_non))
        pss_nil)
      (pss_one (ps_ret (pe_ifExp (pt_val (pe_callB call_isX (by rfl) T.isinstance (by decide +kernel) (pa_cons (pv 2) (pa_cons (pe_glob (by rfl) low.gC (show RelV (.ref C) (.ref C) from rfl)) pa_nil)))) (pe_fldX (pv 2)) pe_str)))))), ?_⟩
    refine ⟨fun σ' H' => ∃ a d tp : Addr, σ' = [some v, some (.ref b), some (.ref a), none] ∧ Same H H' ∧ H' a = some (ExH a (.ref C) (some d)) ∧ H' d = some (.xd [(("path" : Str), .ref tp)]) ∧ SqT K H' tp (p.map V.int), ?_, ?_⟩
    · refine ⟨_, rfl, _, rfl, v, b, t, us, S, rfl, hd, o, hdep, hb, hlen, hp, fun all => ?_, fun j' p' ej' bj' kj' d tp H' s' e1 e2 => ⟨er.te, fun a ha => ?_⟩⟩
      · have z := all p (List.mem_of_getElem? ej)
        rw [bj] at z
        cases z
      · have ep := first_bad ej bj kj ej' bj' kj'
        subst ep
        have s2 := same_new (o := ExH a (.ref C) (some d)) ha
        exact ⟨_, rfl, a, d, tp, rfl, s'.trans s2, upd_same, s2 _ _ e1, sqt_same s2 e2⟩
    · rintro σ' H0 ⟨a, d, tp, rfl, s0, ha, hd0, htp⟩
      refine ⟨_, rfl, rfl, _, rfl, iteF ?_⟩
      refine ⟨_, rfl, a, C, some d, rfl, ha, _, rfl, iteT ?_⟩
      exact ⟨_, rfl, a, C, d, _, .ref tp, rfl, er.xf, er.no, ha, hd0, rfl, q tp H0 s0 htp⟩
end
end K26

namespace K26
open PySem L2 Cm
def spLaw (K : PySem.W.Frag) : Sp := fun vs H Q _ => ∃ (a : Addr) (ns : List Int), vs = [.ref a] ∧ SqL K H a (ns.map V.int) ∧ ns.length ≤ 63 ∧ ∀ H', Q (.bl true) H'
structure Calls (P : Program) (w : World) (K : PySem.W.Frag) (mg : Str → Option Value) (base : Heap) (Cc : Addr) : Prop where
  hand : Cl P w K mg base 1 "_law_hand" (spHand K)
  draw : Cl P w K mg base 2 "_law_draw" spDraw
  any : Cl P w K mg base 13 "_law_any" (spAny K 4)
  keeps : Cl P w K mg base 14 "_law_keeps" (spDown K keepPaths 12)
  kpaths : Cl P w K mg base 15 "keep_paths" (spKeep K)
  word : Cl P w K mg base 14 "_law_worded" (spWord K 12)
  paths : Cl P w K mg base 14 "_law_paths" (spDown K Tr.paths 12)
  once : ClX P w K mg base 15 "with_once" (spOnce K Cc)
  ref : Cl P w K mg base 16 "_law_refused" (spRef K)
/-- the tree that is drawn, its keep forms' paths -/
structure Z (K : PySem.W.Frag) (H : Hp) (h c : Addr) (vt : V) (t : Tr) (KA : Addr) (ks : List V) : Prop where
  hand : Hand H h c
  tr : Dp K H vt t.enc
  ka : H KA = some (.lst ks)
  kd : DpAll K H ks ((keepPaths t).map pathI)
  kh : KA ≠ h
theorem Z.kp {K : PySem.W.Frag} {H H' : Hp} {h c : Addr} {vt : V} {t : Tr} {KA : Addr} {ks : List V} (z : Z K H h c vt t KA ks) (k : Kh h H H') (hh : Hand H' h c) : Z K H' h c vt t KA ks :=
  ⟨hh, dp_keep (fun _ _ q => k.tup q) _ _ (flat_enc t) z.tr, k.st _ _ z.kh z.ka, dps_keep (fun _ _ q => k.tup q) _ _ (flat_pathI _) z.kd, z.kh⟩
theorem Z.same {K : PySem.W.Frag} {H H' : Hp} {h c : Addr} {vt : V} {t : Tr} {KA : Addr} {ks : List V} (z : Z K H h c vt t KA ks) (s : Same H H') : Z K H' h c vt t KA ks := z.kp (z.hand.kh s) (z.hand.same s)
/-- and those that were taken of them -/
structure Z2 (K : PySem.W.Frag) (H : Hp) (h c : Addr) (vt : V) (t : Tr) (KA : Addr) (ks : List V) (PA : Addr) (ps : List V) (S : List (List Int)) : Prop extends Z K H h c vt t KA ks where
  pa : H PA = some (.lst ps)
  pd : DpAll K H ps (S.map pathI)
  ph : PA ≠ h
  pc : PA ≠ c
  ne : KA ≠ PA
  si : ∀ p ∈ S, p ∈ keepPaths t
  sl : S.length ≤ 1000
theorem Z2.kp {K : PySem.W.Frag} {H H' : Hp} {h c : Addr} {vt : V} {t : Tr} {KA : Addr} {ks : List V} {PA : Addr} {ps : List V} {S : List (List Int)} (z : Z2 K H h c vt t KA ks PA ps S) (k : Kh h H H') (hh : Hand H' h c) : Z2 K H' h c vt t KA ks PA ps S :=
  ⟨z.toZ.kp k hh, k.st _ _ z.ph z.pa, dps_keep (fun _ _ q => k.tup q) _ _ (flat_pathI _) z.pd, z.ph, z.pc, z.ne, z.si, z.sl⟩
theorem Z2.same {K : PySem.W.Frag} {H H' : Hp} {h c : Addr} {vt : V} {t : Tr} {KA : Addr} {ks : List V} {PA : Addr} {ps : List V} {S : List (List Int)} (z : Z2 K H h c vt t KA ks PA ps S) (s : Same H H') : Z2 K H' h c vt t KA ks PA ps S := z.kp (z.hand.kh s) (z.hand.same s)
theorem Z2.app {K : PySem.W.Frag} {H : Hp} {h c : Addr} {vt : V} {t : Tr} {KA : Addr} {ks : List V} {PA : Addr} {ps : List V} {S : List (List Int)} (z : Z2 K H h c vt t KA ks PA ps S) {v : V} {p : List Int} (hv : Dp K H v (pathI p)) (hp : p ∈ keepPaths t) (hl : S.length + 1 ≤ 1000) :
    Z2 K (upd H PA (.lst (ps ++ [v]))) h c vt t KA ks PA (ps ++ [v]) (S ++ [p]) := by
  have k : ∀ (a : Addr) (xs : List V), SqT K H a xs → SqT K (upd H PA (.lst (ps ++ [v]))) a xs := fun _ _ q => sqt_put z.pa q
  refine ⟨⟨z.hand.puts z.ph z.pc, dp_keep k _ _ (flat_enc t) z.tr, by rw [upd_ne z.ne]; exact z.ka, dps_keep k _ _ (flat_pathI _) z.kd, z.kh⟩, upd_same, ?_, z.ph, z.pc, z.ne, fun q m => ?_, by rw [List.length_append]; exact hl⟩
  · rw [List.map_append]
    exact DpAll.snoc (dp_keep k _ _ (show flatD (pathI p) = true from flatDs_ints p) hv) (dps_keep k _ _ (flat_pathI _) z.pd)
  · rcases List.mem_append.mp m with m | m
    · exact z.si q m
    · cases List.mem_singleton.mp m
      exact hp
theorem kp_len {t : Tr} (h : t.size ≤ 400) : (keepPaths t).length ≤ 400 := by
  have : (keepPaths t).length ≤ t.paths.length := List.length_filter_le ..
  rw [paths_len] at this
  omega
theorem isi_tup {K : PySem.W.Frag} {H : Hp} {r : Addr} {us : List V} {Q : VK} (hr : SqT K H r us) (q : Q (.bl true) H) : rIsi K [.ref r, .ty "tuple"] H Q :=
  ⟨_, _, _, _, true, rfl, .ty _, tyx_tup hr, kit_tup, q⟩
/-- a path that may be a new list -/
def PV (K : PySem.W.Frag) (h D : Addr) (H : Hp) (u : V) (p : List Int) : Prop := ∃ q, u = .ref q ∧ ((q ≠ h ∧ q ≠ D ∧ H q = some (.lst (p.map V.int))) ∨ SqT K H q (p.map V.int))
theorem PV.kp {K : PySem.W.Frag} {h D : Addr} {H H' : Hp} {u : V} {p : List Int} (x : PV K h D H u p) (k : Kh h H H') : PV K h D H' u p := by
  obtain ⟨q, e, x⟩ := x
  exact ⟨q, e, x.elim (fun ⟨a, b, d⟩ => .inl ⟨a, b, k.st _ _ a d⟩) fun y => .inr (k.tup y)⟩
theorem PV.put {K : PySem.W.Frag} {h D : Addr} {H : Hp} {u : V} {p : List Int} {ys zs : List V} (x : PV K h D H u p) (hD : H D = some (.lst ys)) : PV K h D (upd H D (.lst zs)) u p := by
  obtain ⟨q, e, x⟩ := x
  exact ⟨q, e, x.elim (fun ⟨a, b, d⟩ => .inl ⟨a, b, by rw [upd_ne b]; exact d⟩) fun y => .inr (sqt_put hD y)⟩
theorem PV.pathV {K : PySem.W.Frag} {h D : Addr} {H : Hp} {u : V} {p : List Int} (x : PV K h D H u p) : PathV K H u p := by
  obtain ⟨q, e, x⟩ := x
  exact ⟨q, e, x.elim (fun ⟨_, _, d⟩ => .inl (.inl (.inl d))) .inr⟩
theorem getE {α : Type} {xs : List α} {i : Nat} (h : i < xs.length) : ∃ x, xs[i]? = some x := ⟨xs[i], List.getElem?_eq_getElem h⟩
theorem pathV_of {K : PySem.W.Frag} {H : Hp} {vs : List V} {S : List (List Int)} (h : DpAll K H vs (S.map pathI)) {i : Nat} {v : V} {p : List Int} (e1 : vs[i]? = some v) (e2 : S[i]? = some p) : PathV K H v p := by
  obtain ⟨d, g1, g2⟩ := DpAll.atV h e1
  obtain ⟨p', e3, rfl⟩ := map_at g1
  rw [e2] at e3
  cases e3
  obtain ⟨q, rfl, hq⟩ := pathI_inv g2
  exact ⟨q, rfl, .inr hq⟩
/-- the four wrong paths -/
theorem four_bad {t : Tr} {W : List (List Int)} {pl : List Int} (okt : t.ok) (dpt : t.dep ≤ 10) (h1 : ∀ p ∈ W, keepAt t p = false) (h2 : keepAt t pl = false) : ∀ p ∈ W ++ [List.replicate 31 0, [-1], [11], pl], keepAt t p = false := by
  intro p m
  rcases List.mem_append.mp m with m | m
  · exact h1 p m
  simp only [List.mem_cons, List.not_mem_nil, or_false] at m
  rcases m with rfl | rfl | rfl | rfl
  · exact keepAt_long (by rw [List.length_replicate]; omega)
  · exact keepAt_neg t
  · exact keepAt_far okt [] (n := 11) (by decide)
  · exact h2
/-- values that are paths -/
structure PVs (K : PySem.W.Frag) (H : Hp) (us : List V) (S : List (List Int)) : Prop where
  len : us.length = S.length
  at_ : ∀ (i : Nat) (u : V) (p : List Int), us[i]? = some u → S[i]? = some p → PathV K H u p
theorem PVs.of {K : PySem.W.Frag} {H : Hp} {us : List V} {S : List (List Int)} (h : DpAll K H us (S.map pathI)) : PVs K H us S :=
  ⟨by have := DpAll.len h; rw [List.length_map] at this; exact this, fun _ _ _ e1 e2 => pathV_of h e1 e2⟩
theorem PVs.one {K : PySem.W.Frag} {H : Hp} {u : V} {p : List Int} (h : PathV K H u p) : PVs K H [u] [p] := ⟨rfl, fun i v q e1 e2 => by
  cases i with
  | zero => cases e1; cases e2; exact h
  | succ i => simp at e1⟩
theorem PVs.app {K : PySem.W.Frag} {H : Hp} {us vs : List V} {S R : List (List Int)} (a : PVs K H us S) (b : PVs K H vs R) : PVs K H (us ++ vs) (S ++ R) := by
  refine ⟨by rw [List.length_append, List.length_append, a.len, b.len], fun i u p e1 e2 => ?_⟩
  by_cases h : i < us.length
  · rw [List.getElem?_append_left h] at e1
    rw [List.getElem?_append_left (by rw [← a.len]; exact h)] at e2
    exact a.at_ i u p e1 e2
  · rw [List.getElem?_append_right (by omega)] at e1
    rw [List.getElem?_append_right (by rw [← a.len]; omega), ← a.len] at e2
    exact b.at_ _ u p e1 e2
theorem DpAll.mapTake {K : PySem.W.Frag} {H : Hp} {us : List V} {S : List (List Int)} (m : Nat) (h : DpAll K H us (S.map pathI)) : DpAll K H (us.take m) ((S.take m).map pathI) := by
  rw [List.map_take]
  exact DpAll.take m h
theorem DpAll.mapDrop {K : PySem.W.Frag} {H : Hp} {us : List V} {S : List (List Int)} (m : Nat) (h : DpAll K H us (S.map pathI)) : DpAll K H (us.drop m) ((S.drop m).map pathI) := by
  rw [List.map_drop]
  exact DpAll.drop m h
theorem mid_bad {S : List (List Int)} {m : Nat} (hm : m ≤ S.length) (bad again : List Int) : (((S.take m ++ [bad]) ++ S.drop m) ++ [again])[m]? = some bad ∧ (((S.take m ++ [bad]) ++ S.drop m) ++ [again]).take m = S.take m := by
  have e : ((S.take m ++ [bad]) ++ S.drop m) ++ [again] = S.take m ++ (bad :: (S.drop m ++ [again])) := by simp
  have l : (S.take m).length = m := by rw [List.length_take]; omega
  rw [e]
  refine ⟨?_, ?_⟩
  · rw [List.getElem?_append_right (by omega), l, Nat.sub_self]
    rfl
  · rw [List.take_append_of_le_length (by omega), List.take_of_length_le (by omega)]
section
variable {P : Program} {w : World} {K : PySem.W.Frag} {mg : Str → Option Value} {base : Heap} {Cc : Addr}
abbrev s_law : Stmt := top 27
abbrev N_law : List Str := ["_law_script", "_law_hand_here", "_law_names", "_law_inner", "_law_tree", "_law_keeps_here", "_law_told", "_law_paths_here", "_law_path", "_law_due", "_law_given", "_law_left", "_law_others", "_law_wrong", "_law_bad", "_law_again", "_law_at"]
theorem sc_law : FnScope N_law ["_law_script"] (defScope s_law) := ⟨rfl, rfl, rfl, by decide +kernel, rfl, by decide +kernel, by decide +kernel⟩
theorem ok_law {f : Addr} {fd : FuncData} (T : Txt mg) (C : Calls P w K mg base Cc) (F : Fun K "law" "law" s_law f fd) : LawAt P w K mg base 17 f fd ["_law_script"] (spLaw K) := by
  refine lawAt_of F sc_law (fun vs H Q E h => ?_) fun cdv A outer s H vs Q E hgd hr h => ?_
  · obtain ⟨a, ns, rfl, _⟩ := h
    rfl
  · obtain ⟨a, ns, rfl, hS, hlen, k⟩ := h
    refine ⟨_, (pss_cons (ps_set (i := 1) sc_law.nd rfl (Or.inr rfl) (pe_c C.hand hr (by decide) (by rfl) (pa_cons (pv 0) pa_nil)))
      (pss_cons (ps_set (i := 2) sc_law.nd rfl (Or.inl rfl) (pe_tup (pa_cons pe_str (pa_cons pe_str (pa_cons pe_str (pa_cons pe_str pa_nil))))))
      (pss_cons (ps_set (i := 3) sc_law.nd rfl (Or.inl rfl) (pe_c C.any hr (by decide) (by rfl) (pa_cons (pv 1) (pa_cons pe_int (pa_cons (pv 2) (pa_cons (pe_lst (pa_cons pe_int pa_nil)) pa_nil))))))
      (pss_cons (ps_set (i := 4) sc_law.nd rfl (Or.inl rfl) (pv 3))
      (pss_mid (ps_if (pt_cmpR op_eq (pe_c C.draw hr (by decide) (by rfl) (pa_cons (pv 1) (pa_cons pe_int pa_nil))) pe_int (nomark _))
        (pss_one (ps_set (i := 4) sc_law.nd rfl (Or.inl rfl) (pe_tup (pa_cons pe_str (pa_cons pe_str (pa_cons (pe_tup (pa_cons pe_str (pa_cons (pe_tup (pa_cons (pe_tup (pa_cons pe_str (pa_cons pe_int pa_nil))) (pa_cons (pe_tup (pa_cons pe_str (pa_cons pe_str (pa_cons (pv 3) pa_nil)))) (pa_cons (pv 3) pa_nil)))) pa_nil))) pa_nil))))))
        pss_nil)
      (pss_cons (ps_set (i := 5) sc_law.nd rfl (Or.inr rfl) (pe_c C.keeps hr (by decide) (by rfl) (pa_cons (pv 4) (pa_cons (pe_tup pa_nil) pa_nil))))
      (pss_cons (ps_set (i := 6) sc_law.nd rfl (Or.inl rfl) (pe_c C.kpaths hr (by decide) (by rfl) (pa_cons (pv 4) pa_nil)))
      (pss_mid (ps_if (PW.pt (pw_or (pt_cmpR (op_neD hr.units) (pv 6) (pe_tupleOf (by rfl) T.tuple (pv 5)) (nomark _)) (pw_or1 (pt_not (pt_val (pe_callB call_isi (by rfl) T.isinstance (by decide +kernel) (pa_cons (pv 6) (pa_cons (pe_bltn (v := .ty "tuple") (by rfl) T.tuple (by rfl) (show RelV (.ty "tuple") (.type "tuple") from rfl)) pa_nil))))))))
        (pss_one (ps_ret pe_bl))
        pss_nil)
      (pss_mid (ps_set (i := 7) sc_law.nd rfl (Or.inr rfl) (pe_lc (own := [("_law_path", 8)]) rfl sc_law.nd (pi_list (pv 5)) (blkOk_by (N := N_law) (sc := defScope s_law) (by decide +kernel))
      (fun _ _ _ _ _ => (pg_name (i := 8) sc_law.nd rfl (Or.inl rfl)))
      (fun _ _ _ _ _ => (pts_one (pt_cmpR op_eq (pe_c C.draw hr (by decide) (by rfl) (pa_cons (pv 1) (pa_cons pe_int pa_nil))) pe_int (nomark _))))
      (fun _ _ _ _ _ => (pv 8))))
      (pss_mid (ps_if (PW.pt (pw_and (pt_cmpR op_gt (pe_callB call_len_seq (by rfl) T.len (by decide +kernel) (pa_cons (pv 7) pa_nil)) pe_int (nomark _)) (pw_and1 (pt_cmpR op_eq (pe_c C.draw hr (by decide) (by rfl) (pa_cons (pv 1) (pa_cons pe_int pa_nil))) pe_int (nomark _)))))
        (pss_one (ps_expr (pe_bm PySem.F.plainAttrs_list PySem.F.slot_list_append PySem.F.type_list_append mt_append (pv 7) (pa_cons (pe_ix ix_list (pv 7) pe_int (fun _ _ => rfl)) pa_nil))))
        pss_nil)
      (pss_cons (ps_set (i := 9) sc_law.nd rfl (Or.inl rfl) (pe_c C.word hr (by decide) (by rfl) (pa_cons (pv 4) (pa_cons (pe_tup pa_nil) (pa_cons (pv 7) (pa_cons pe_str pa_nil))))))
      (pss_cons (ps_setLc (i := 10) (own := [("_law_path", 8)]) rfl sc_law.nd rfl rfl (sw_true rfl rfl rfl (by decide +kernel)) (pi_list (pv 7)) (blkOk_by (N := N_law) (sc := defScope s_law) (by decide +kernel))
      (fun _ _ _ _ _ => (pg_name (i := 8) sc_law.nd rfl (Or.inl rfl)))
      (fun _ _ _ _ _ => pts_nil)
      (fun _ _ _ _ _ => (pe_ifExp (pt_cmpR op_eq (pe_c C.draw hr (by decide) (by rfl) (pa_cons (pv 1) (pa_cons pe_int pa_nil))) pe_int (nomark _)) (pe_callTy (kc_listOf (K := K)) (by rfl) T.list (by decide +kernel) (pa_cons (pv 8) pa_nil)) (pv 8))))
      (pss_mid (ps_if (PW.pt (pw_or (pt_cmpR (op_neD hr.units) (pe_cL C.once hr (by decide) (by rfl) (pa_cons (pv 4) (pa_cons (pv 10) pa_nil))) (pv 9) (nomark _)) (pw_or (pt_cmpR (op_neD hr.units) (pe_lc (own := [("_law_path", 8)]) rfl sc_law.nd (pi_list (pv 10)) (blkOk_by (N := N_law) (sc := defScope s_law) (by decide +kernel))
      (fun _ _ _ _ _ => (pg_name (i := 8) sc_law.nd rfl (Or.inl rfl)))
      (fun _ _ _ _ _ => pts_nil)
      (fun _ _ _ _ _ => (ke_tupleOf (K := K) (by rfl) T.tuple (pv 8)))) (pv 7) (nomark _)) (pw_or1 (pt_cmpR (op_neD hr.units) (pe_cL C.once hr (by decide) (by rfl) (pa_cons (pv 4) (pa_cons (pe_tupleOf (by rfl) T.tuple (pv 7)) pa_nil))) (pv 9) (nomark _))))))
        (pss_one (ps_ret pe_bl))
        pss_nil)
      (pss_cons (ps_set (i := 11) sc_law.nd rfl (Or.inl rfl) (pe_c C.kpaths hr (by decide) (by rfl) (pa_cons (pv 9) pa_nil)))
      (pss_mid (ps_if (PW.pt (pw_or (pt_cmpR (op_neD hr.units) (pv 11) (pe_tupleOf (by rfl) T.tuple (pe_lc (own := [("_law_path", 8)]) rfl sc_law.nd (pi_list (pv 5)) (blkOk_by (N := N_law) (sc := defScope s_law) (by decide +kernel))
      (fun _ _ _ _ _ => (pg_name (i := 8) sc_law.nd rfl (Or.inl rfl)))
      (fun _ _ _ _ _ => (pts_one (pt_cmpR (ko_notInD (K := K) (room65 hr)) (pv 8) (pv 7) (by rfl))))
      (fun _ _ _ _ _ => (pv 8)))) (nomark _)) (pw_or1 (pt_cmpR (op_neD hr.units) (pe_cL C.once hr (by decide) (by rfl) (pa_cons (pv 4) (pa_cons (pe_lst pa_nil) pa_nil))) (pv 4) (nomark _)))))
        (pss_one (ps_ret pe_bl))
        pss_nil)
      (pss_mid (ps_setLc (i := 12) (own := [("_law_path", 8)]) rfl sc_law.nd rfl rfl (sw_true rfl rfl rfl (by decide +kernel)) (pi_list (pe_c C.paths hr (by decide) (by rfl) (pa_cons (pv 4) (pa_cons (pe_tup pa_nil) pa_nil)))) (blkOk_by (N := N_law) (sc := defScope s_law) (by decide +kernel))
      (fun _ _ _ _ _ => (pg_name (i := 8) sc_law.nd rfl (Or.inl rfl)))
      (fun _ _ _ _ _ => (pts_one (pt_cmpR (ko_notInD (K := K) (room65 hr)) (pv 8) (pv 5) (by rfl))))
      (fun _ _ _ _ _ => (pv 8)))
      (pss_mid (ps_set (i := 13) sc_law.nd rfl (Or.inl rfl) (pe_ifExp (pt_cmpR op_gt (pe_callB call_len_seq (by rfl) T.len (by decide +kernel) (pa_cons (pv 12) pa_nil)) pe_int (nomark _)) (pe_lst (pa_cons (pe_ix ix_list (pv 12) (pe_c C.draw hr (by decide) (by rfl) (pa_cons (pv 1) (pa_cons (pe_callB call_len_seq (by rfl) T.len (by decide +kernel) (pa_cons (pv 12) pa_nil)) pa_nil))) (fun _ _ => rfl)) pa_nil)) (pe_lst pa_nil)))
      (pss_mid (ps_set (i := 13) sc_law.nd rfl (Or.inl rfl) (pe_op op_cat (pv 13) (pe_lst (pa_cons (pe_op op_repT (pe_tup (pa_cons pe_int pa_nil)) pe_int) (pa_cons (pe_tup (pa_cons (pe_un un_neg pe_int) pa_nil)) (pa_cons (pe_tup (pa_cons pe_int pa_nil)) (pa_cons (pe_ifExp (pt_cmpR op_gt (pe_callB call_len_seq (by rfl) T.len (by decide +kernel) (pa_cons (pv 5) pa_nil)) pe_int (nomark _)) (pe_op op_catA (pe_ix ix_list (pv 5) pe_int (fun _ _ => rfl)) (pe_tup (pa_cons pe_int pa_nil))) (pe_tup (pa_cons pe_int pa_nil))) pa_nil)))))))
      (pss_cons (ps_set (i := 14) sc_law.nd rfl (Or.inl rfl) (pe_ix ix_list (pv 13) (pe_c C.draw hr (by decide) (by rfl) (pa_cons (pv 1) (pa_cons (pe_callB call_len_seq (by rfl) T.len (by decide +kernel) (pa_cons (pv 13) pa_nil)) pa_nil))) (fun _ _ => rfl)))
      (pss_cons (ps_set (i := 15) sc_law.nd rfl (Or.inl rfl) (pe_ix ix_list (pv 13) (pe_c C.draw hr (by decide) (by rfl) (pa_cons (pv 1) (pa_cons (pe_callB call_len_seq (by rfl) T.len (by decide +kernel) (pa_cons (pv 13) pa_nil)) pa_nil))) (fun _ _ => rfl)))
      (pss_cons (ps_set (i := 16) sc_law.nd rfl (Or.inl rfl) (pe_c C.draw hr (by decide) (by rfl) (pa_cons (pv 1) (pa_cons (pe_op op_add (pe_callB call_len_seq (by rfl) T.len (by decide +kernel) (pa_cons (pv 7) pa_nil)) pe_int) pa_nil))))
      (pss_mid (ps_if (pt_cmpR (op_neD hr.units) (pe_c C.ref hr (by decide) (by rfl) (pa_cons (pv 4) (pa_cons (pe_op op_cat (pe_op op_cat (pe_op op_cat (pe_slice sl_list (pv 7) po_none (po_some (pv 16))) (pe_lst (pa_cons (pe_callTy call_list_of (by rfl) T.list (by decide +kernel) (pa_cons (pv 14) pa_nil)) pa_nil))) (pe_slice sl_list (pv 7) (po_some (pv 16)) po_none)) (pe_lst (pa_cons (pv 15) pa_nil))) pa_nil))) (pv 14) (nomark _))
        (pss_one (ps_ret pe_bl))
        pss_nil)
      (pss_one (ps_ret (pe_and (pe_cmpR (op_eqD hr.units) (pe_cL C.once hr (by decide) (by rfl) (pa_cons (pv 4) (pa_cons (pv 7) pa_nil))) (pv 9) (nomark _)) (pe_one (pe_or (pe_cmpR (op_eqD hr.units) (pv 7) (pe_lst pa_nil) (nomark _)) (pe_one (pe_cmpR (op_eqD hr.units) (pe_c C.ref hr (by decide) (by rfl) (pa_cons (pv 9) (pa_cons (pv 7) pa_nil))) (pe_ix ix_list (pv 7) pe_int (fun _ _ => rfl)) (nomark _)))))))))))))))))))))))))))))), ?_⟩
    refine ⟨_, rfl, a, ns, rfl, hS, hlen, fun h c H1 s1 _ _ hh1 => ?_⟩
    refine ⟨by show 4 ≤ sizeLine; decide, fun nm hnm => ?_⟩
    have sN := same_new (o := .tup [.str "a", .str "b", .str "kept", .str "v0"]) hnm
    have hh2 := hh1.same sN
    have hN : SqT K (upd H1 nm (.tup [.str "a", .str "b", .str "kept", .str "v0"])) nm ((["a", "b", "kept", "v0"] : List Str).map V.str) := .inl (.inl upd_same)
    generalize upd H1 nm (.tup [.str "a", .str "b", .str "kept", .str "v0"]) = H2 at *
    refine ⟨_, rfl, _, rfl, by show 1 ≤ sizeLine; decide, fun r hrn => ?_⟩
    have nr := hh2.there hrn
    have sR := same_new (o := .lst [.int 14]) hrn
    refine ⟨h, c, nm, r, ["a", "b", "kept", "v0"], 14, 3, rfl, ⟨hh2.same sR, upd_same, nr.1, nr.2⟩, sqt_same sR hN, by decide, by decide, by decide +kernel, by decide, fun vi ti k2 H3 kr3 x3 hvi oki dpi szi => ?_⟩
    refine ⟨_, rfl, ?_⟩
    refine ⟨fun σ' H' => ∃ (vt : V) (t : Tr), σ' = [some (.ref a), some (.ref h), some (.ref nm), some vi, some vt, none, none, none, none, none, none, none, none, none, none, none, none] ∧ Hand H' h c ∧ Dp K H' vt t.enc ∧ t.ok ∧ t.dep ≤ 10 ∧ t.size ≤ 400, ?_, ?_⟩
    · refine ⟨_, rfl, h, c, _, rfl, x3.hand, by decide, by decide, fun n4 H4 _ _ k4 hh4 => ?_⟩
      have hvi4 := dp_keep (fun _ _ q => k4.tup q) _ _ (flat_enc ti) hvi
      refine ⟨rfl, _, rfl, ite2 (fun _ => ?_) (fun _ => ⟨vi, ti, rfl, hh4, hvi4, oki, by omega, by omega⟩)⟩
      refine ⟨by show 2 ≤ sizeLine; decide, fun tA htA => ⟨_, rfl, by show 3 ≤ sizeLine; decide, fun tB htB => ⟨_, rfl, by show 3 ≤ sizeLine; decide, fun tC htC => ⟨by show 2 ≤ sizeLine; decide, fun tD htD => ⟨by show 3 ≤ sizeLine; decide, fun tE htE => ?_⟩⟩⟩⟩⟩
      have sA := same_new (o := .tup [.str "number", .int 3]) htA
      have dA : Dp K (upd H4 tA (.tup [.str "number", .int 3])) (.ref tA) (Tr.mk (.num 3) []).enc := unview (h := .num 3) (ds := []) (.inl (.inl upd_same)) rfl
      generalize upd H4 tA (.tup [.str "number", .int 3]) = H5 at *
      have sB := same_new (o := .tup [.str "keep", .str "a", vi]) htB
      have dB : Dp K (upd H5 tB (.tup [.str "keep", .str "a", vi])) (.ref tB) (Tr.mk (.one "keep" "a") [ti]).enc := unview (h := .one "keep" "a") (ds := [ti.enc]) (.inl (.inl upd_same)) ⟨[vi], rfl, .cons (dp_same (sA.trans sB) _ _ hvi4) .nil⟩
      generalize upd H5 tB (.tup [.str "keep", .str "a", vi]) = H6 at *
      have sC := same_new (o := .tup [.ref tA, .ref tB, vi]) htC
      have dC : DpAll K (upd H6 tC (.tup [.ref tA, .ref tB, vi])) [.ref tA, .ref tB, vi] [(Tr.mk (.num 3) []).enc, (Tr.mk (.one "keep" "a") [ti]).enc, ti.enc] :=
        .cons (dp_same (sB.trans sC) _ _ dA) (.cons (dp_same sC _ _ dB) (.cons (dp_same ((sA.trans sB).trans sC) _ _ hvi4) .nil))
      have hC7 : SqT K (upd H6 tC (.tup [.ref tA, .ref tB, vi])) tC [.ref tA, .ref tB, vi] := .inl (.inl upd_same)
      generalize upd H6 tC (.tup [.ref tA, .ref tB, vi]) = H7 at *
      have sD := same_new (o := .tup [.str "do", .ref tC]) htD
      have dD : Dp K (upd H7 tD (.tup [.str "do", .ref tC])) (.ref tD) (Tr.mk .doo [.mk (.num 3) [], .mk (.one "keep" "a") [ti], ti]).enc := unview (h := .doo) (.inl (.inl upd_same)) ⟨tC, _, rfl, sqt_same sD hC7, dps_same sD _ _ dC⟩
      generalize upd H7 tD (.tup [.str "do", .ref tC]) = H8 at *
      have sE := same_new (o := .tup [.str "keep", .str "b", .ref tD]) htE
      have sAll := (((sA.trans sB).trans sC).trans sD).trans sE
      refine ⟨.ref tE, .mk (.one "keep" "b") [.mk .doo [.mk (.num 3) [], .mk (.one "keep" "a") [ti], ti]], rfl, hh4.same sAll, unview (h := .one "keep" "b") (ds := [(Tr.mk .doo [.mk (.num 3) [], .mk (.one "keep" "a") [ti], ti]).enc]) (.inl (.inl upd_same)) ⟨[.ref tD], rfl, .cons (dp_same sE _ _ dD) .nil⟩, ?_, ?_, ?_⟩
      · refine ⟨⟨rfl, by decide +kernel, by decide +kernel⟩, by show 1 ≤ 11; decide, ⟨trivial, by show 3 ≤ 11; decide, ⟨rfl, by show 0 ≤ 11; decide, trivial⟩, ⟨⟨rfl, by decide +kernel, by decide +kernel⟩, by show 1 ≤ 11; decide, oki, trivial⟩, oki, trivial⟩, trivial⟩
      · have e : (Tr.mk (.one "keep" "b") [.mk .doo [.mk (.num 3) [], .mk (.one "keep" "a") [ti], ti]]).dep = max (max (0 + 1) (max (max ti.dep 0 + 1) (max ti.dep 0)) + 1) 0 + 1 := rfl
        omega
      · have e : (Tr.mk (.one "keep" "b") [.mk .doo [.mk (.num 3) [], .mk (.one "keep" "a") [ti], ti]]).size = (((0 + 1) + ((ti.size + 0 + 1) + (ti.size + 0))) + 1) + 0 + 1 := rfl
        omega
    clear hvi x3 kr3 hh2 hN sR hrn nr sN hh1
    rintro σ' H4 ⟨vt, t, rfl, hh4, ht4, okt, dpt, szt⟩
    refine ⟨_, rfl, by show 0 ≤ sizeLine; decide, fun e0 he0 => ?_⟩
    have s5 := same_new (o := .tup []) he0
    refine ⟨vt, e0, t, [], rfl, dp_same s5 _ _ ht4, okt, by omega, by omega, .inl (.inl upd_same), by decide, fun KA ks H6 s6 nKA hKA hks => ?_⟩
    have hh6 := hh4.same (s5.trans s6)
    have hks6 : DpAll K H6 ks ((keepPaths t).map pathI) := by
      have e : ((keepPaths t).map fun p => ([] : List Int) ++ p) = keepPaths t := List.map_id _
      rw [e] at hks
      exact hks
    have kh : KA ≠ h := ((hh4.same s5).there nKA).1
    have z6 : Z K H6 h c vt t KA ks := ⟨hh6, dp_same (s5.trans s6) _ _ ht4, hKA, hks6, kh⟩
    refine ⟨_, rfl, vt, t, rfl, z6.tr, okt, by omega, by omega, fun r6 us6 H7 s7 hr7 hu7 => ?_⟩
    have z7 := z6.same s7
    refine ⟨fun σ' H' => σ' = [some (.ref a), some (.ref h), some (.ref nm), some vi, some vt, some (.ref KA), some (.ref r6), none, none, none, none, none, none, none, none, none, none] ∧ Z K H' h c vt t KA ks, ?_, ?_⟩
    · refine ⟨_, rfl, _, rfl, .inl ⟨KA, _, rfl, .inl (.inl z7.ka), fun t8 ht8 => ?_⟩⟩
      have s8 := same_new (o := .tup ks) ht8
      refine ⟨_, _, .tup (sqt_same s8 hr7) (dps_same s8 _ _ hu7), .tup (.inl (.inl upd_same)) (dps_same s8 _ _ z7.kd), (lay_pathsT _).sh (by decide), (lay_pathsT _).sh (by decide), _, rfl, ?_⟩
      rw [ne_same' ((lay_pathsT _).sh (by decide))]
      exact iteF ⟨_, rfl, _, _, _, _, true, rfl, .ty _, tyx_tup (sqt_same s8 hr7), kit_tup, _, rfl, iteF ⟨rfl, z7.same s8⟩⟩
    clear z6 z7 s7 hr7 hu7 hks hks6 hh6 hKA s6 s5 he0 ht4
    have hkl := kp_len szt
    rintro σ' H8 ⟨rfl, z8⟩
    refine ⟨fun σ' H' => ∃ (PA : Addr) (as : List V) (S : List (List Int)) (v8 : Option V), σ' = [some (.ref a), some (.ref h), some (.ref nm), some vi, some vt, some (.ref KA), some (.ref r6), some (.ref PA), v8, none, none, none, none, none, none, none, none] ∧ Z2 K H' h c vt t KA ks PA as S ∧ S.length ≤ 400, ?_, ?_⟩
    · have hksl := DpAll.len z8.kd
      rw [List.length_map] at hksl
      refine ⟨_, rfl, KA, rfl, ⟨_, .inl (.inl z8.ka)⟩, fun D hD => ?_⟩
      have nD := z8.hand.there hD
      refine lc_drawJ (K := K) (M := fun b => b = h) (walk_list (xs := ks)) (fun i ds H' => ∃ S, ds = S.map pathI ∧ Hand H' h c ∧ (∀ p ∈ S, p ∈ keepPaths t) ∧ S.length ≤ i) (fun b m => by subst m; exact z8.hand.lst)
        ⟨[], rfl, z8.hand.same (same_new hD), (fun _ m => by cases m), Nat.le_refl _⟩ (fun i ds H' ys _ j => ?_) hD (by omega) (fun i ds H' kk _ => .inl (.inl (kk.st _ _ z8.kh z8.ka))) (fun i ds H' j => ?_) ?_ ?_
      · obtain ⟨S, e, hh, r⟩ := j
        exact ⟨S, e, hh.puts nD.1 nD.2, r⟩
      · obtain ⟨S, rfl, _⟩ := j
        exact flat_pathI S
      · rintro i x ds H9 H10 hi kk ⟨S, rfl, hh9, hin, hl⟩ ⟨rfl, e2⟩ Q1 Q0 q1 q0
        obtain ⟨d, g1, g2⟩ := DpAll.atV z8.kd e2
        obtain ⟨p, ep, rfl⟩ := map_at g1
        refine ⟨rfl, ?_⟩
        refine ⟨_, rfl, h, c, _, rfl, hh9, by decide, by decide, fun n4 H11 _ _ k4 hh4 => ⟨rfl, _, rfl, ?_⟩⟩
        refine ite2 (fun _ => ?_) (fun _ => ?_)
        · refine ⟨_, rfl, q1 _ _ (pathI p) k4 ⟨S ++ [p], by rw [List.map_append]; rfl, hh4, ?_, by rw [List.length_append]; exact Nat.succ_le_succ hl⟩ (dp_keep (fun _ _ q => (kk.trans k4).tup q) _ _ (flatDs_ints p) g2)⟩
          intro z m
          rcases List.mem_append.mp m with m | m
          · exact hin z m
          · cases List.mem_singleton.mp m
            exact List.mem_of_getElem? ep
        · exact q0 _ k4 ⟨S, rfl, hh4, hin, by omega⟩
      · rintro H9 acc ds kk ⟨S, rfl, hh9, hin, hl⟩ hacc ha
        exact ⟨D, acc, S, _, rfl, ⟨z8.kp kk hh9, hacc, ha, nD.1, nD.2, ne_of_none z8.ka hD, hin, by omega⟩, by omega⟩
    rintro σ' H9 ⟨PA, as0, S0, v8, rfl, z9, sl9⟩
    refine ⟨fun σ' H' => ∃ (as : List V) (S : List (List Int)), σ' = [some (.ref a), some (.ref h), some (.ref nm), some vi, some vt, some (.ref KA), some (.ref r6), some (.ref PA), v8, none, none, none, none, none, none, none, none] ∧ Z2 K H' h c vt t KA ks PA as S ∧ S.length ≤ 401, ?_, ?_⟩
    · refine ⟨_, rfl, PA, _, rfl, .inl (.inl (.inl z9.pa)), _, _, rfl, rfl, _, rfl, ?_⟩
      refine ite2 (fun hpos => ?_) (fun _ => iteF ⟨as0, S0, rfl, z9, by omega⟩)
      refine ⟨_, rfl, h, c, _, rfl, z9.hand, by decide, by decide, fun n H10 _ _ k10 hh10 => ⟨rfl, _, rfl, ?_⟩⟩
      have z10 := z9.kp k10 hh10
      refine ite2 (fun _ => ?_) (fun _ => ⟨as0, S0, rfl, z10, by omega⟩)
      have hpos' : 0 < as0.length := by
        have := of_decide_eq_true hpos
        omega
      have hal := DpAll.len z10.pd
      rw [List.length_map] at hal
      obtain ⟨p0, e0p⟩ : ∃ p, S0[0]? = some p := ⟨S0[0]'(by omega), List.getElem?_eq_getElem (by omega)⟩
      obtain ⟨a0, e0a⟩ : ∃ v, as0[0]? = some v := ⟨as0[0]'hpos', List.getElem?_eq_getElem hpos'⟩
      obtain ⟨d0, g1, g2⟩ := DpAll.atV z10.pd e0a
      obtain ⟨p1, ep1, rfl⟩ := map_at g1
      rw [e0p] at ep1
      cases ep1
      refine ⟨_, rfl, .inl ⟨rfl, _, .inl (.inl z10.pa)⟩, _, rfl, PA, _, _, _, rfl, rfl, .inl (.inl z10.pa), atI_nat (j := 0) e0a, PA, _, _, rfl, rfl, z10.pa, Nat.lt_of_lt_of_le (show as0.length < 1000 by omega) (by decide), ?_⟩
      exact ⟨as0 ++ [a0], S0 ++ [p0], rfl, z10.app g2 (z10.si _ (List.mem_of_getElem? e0p)) (by omega), by rw [List.length_append]; show S0.length + 1 ≤ 401; omega⟩
    clear z8 z9
    rintro σ' H10 ⟨as, S, rfl, z10, sl10⟩
    refine ⟨_, rfl, by show 0 ≤ sizeLine; decide, fun e1 he1 => ?_⟩
    have s1' := same_new (o := .tup []) he1
    have z10' := z10.same s1'
    refine ⟨_, rfl, vt, e1, PA, S, as, t, [], rfl, z10'.tr, okt, by omega, .inl (.inl upd_same), by decide, z10'.pa, z10'.pd, fun vd H11 s11 hvd => ?_⟩
    have z11 := z10'.same s11
    have oku := rw_ok (S := S) t [] okt
    have dpu : (t.rw S []).dep ≤ 10 := by rw [dep_rw]; exact dpt
    have szu : (t.rw S []).size ≤ 400 := by rw [size_rw]; exact szt
    have kpu := keepPaths_rw S t
    have told : ∀ p ∈ S, keepAt (t.rw S []) p = false := fun p m => keepAt_told (z10.si p m) m
    have shu := (lay_enc 10 (t.rw S []) oku dpu).sh (by decide)
    have flu := flat_enc (t.rw S [])
    clear s11 s1' he1 z10'
    generalize eu : t.rw S [] = u at *
    have hal := DpAll.len z11.pd
    rw [List.length_map] at hal
    refine ⟨_, rfl, PA, rfl, ⟨_, .inl (.inl z11.pa)⟩, fun GA hGA => ?_⟩
    have nG := z11.hand.there hGA
    refine lc_it (walk_list (xs := as)) (fun i H' => ∃ acc, Kh h H11 H' ∧ Hand H' h c ∧ H' GA = some (.lst acc) ∧ acc.length = i ∧ ∀ (j : Nat) (v : V) (p : List Int), acc[j]? = some v → S[j]? = some p → PV K h GA H' v p)
      ⟨[], Kp.new (fun b m => by subst m; exact z11.hand.lst) hGA, z11.hand.same (same_new hGA), upd_same, rfl, fun j v p e => by simp at e⟩ (fun i H' _ z => ?_) ?_ ?_
    · obtain ⟨_, kk, _⟩ := z
      exact .inl (.inl (kk.st _ _ z11.ph z11.pa))
    · rintro i x H12 H13 hi ⟨acc, kk, hh12, hG12, hacl, hpv⟩ ⟨rfl, e2⟩
      obtain ⟨d, g1, g2⟩ := DpAll.atV z11.pd e2
      obtain ⟨p, ep, rfl⟩ := map_at g1
      obtain ⟨q, rfl, hq⟩ := pathI_inv g2
      have step : ∀ (y : V) (H14 : Hp), Kh h H13 H14 → Hand H14 h c → PV K h GA H14 y p → ∃ acc, H14 GA = some (.lst acc) ∧ acc.length < sizeLine ∧ ∃ acc2, Kh h H11 (upd H14 GA (.lst (acc ++ [y]))) ∧ Hand (upd H14 GA (.lst (acc ++ [y]))) h c ∧ (upd H14 GA (.lst (acc ++ [y]))) GA = some (.lst acc2) ∧ acc2.length = i + 1 ∧
          ∀ (j : Nat) (v : V) (p : List Int), acc2[j]? = some v → S[j]? = some p → PV K h GA (upd H14 GA (.lst (acc ++ [y]))) v p := fun y H14 k4 hh4 hy => by
        have hG4 := k4.st _ _ nG.1 hG12
        refine ⟨acc, hG4, Nat.lt_of_lt_of_le (show acc.length < 1000 by omega) (by decide), acc ++ [y], (kk.trans k4).mut hGA, hh4.puts nG.1 nG.2, upd_same, by rw [List.length_append, hacl]; rfl, fun j v p' ej ep' => ?_⟩
        by_cases hj : j < acc.length
        · rw [List.getElem?_append_left hj] at ej
          exact ((hpv j v p' ej ep').kp k4).put hG4
        · rw [List.getElem?_append_right (by omega)] at ej
          have : j - acc.length = 0 := by
            have := (List.getElem?_eq_some_iff.mp ej).1
            simp at this
            omega
          rw [this] at ej
          cases ej
          have ej' : j = i := by omega
          subst ej'
          rw [ep] at ep'
          cases ep'
          exact hy.put hG4
      refine ⟨rfl, ?_⟩
      refine ⟨_, rfl, h, c, _, rfl, hh12, by decide, by decide, fun n4 H14 _ _ k4 hh4 => ⟨rfl, _, rfl, ?_⟩⟩
      have hq4 := (kk.trans k4).tup hq
      refine ite2 (fun _ => ⟨_, rfl, q, _, rfl, .inr hq4, fun l hl => ?_⟩) (fun _ => ⟨_, rfl, step _ H14 k4 hh4 ⟨q, rfl, .inr hq4⟩⟩)
      have sl := same_new (o := .lst (p.map V.int)) hl
      have hG4 := k4.st _ _ nG.1 hG12
      exact step _ _ (k4.trans (hh4.kh sl)) (hh4.same sl) ⟨l, rfl, .inl ⟨(hh4.there hl).1, (ne_of_none hG4 hl).symm, upd_same⟩⟩
    rintro H12 ⟨gs, kk, hh12, hG12, hgl, hpv⟩
    have z12 := z11.kp kk hh12
    have hvd12 := dp_keep (fun _ _ q => kk.tup q) _ _ flu hvd
    have hgS : gs.length = S.length := by omega
    have noBad : ∀ {P : Prop} (j : Nat) (p : List Int), S[j]? = some p → keepAt t p = false → P := fun {P} j p ej bj => by
      have z := keepAt_of_mem (z11.si p (List.mem_of_getElem? ej))
      rw [bj] at z
      cases z
    refine ⟨fun σ' H' => ∃ (v8 v10 : Option V), σ' = [some (.ref a), some (.ref h), some (.ref nm), some vi, some vt, some (.ref KA), some (.ref r6), some (.ref PA), v8, some vd, v10, none, none, none, none, none, none] ∧ Z2 K H' h c vt t KA ks PA as S ∧ Dp K H' vd u.enc, ?_, ?_⟩
    · refine ⟨_, rfl, _, rfl, vt, GA, t, gs, S, rfl, z12.tr, okt, by omega, .inl (.inl (.inl hG12)), hgS, fun i u' p e1 e2 => (hpv i u' p e1 e2).pathV, fun _ r1 H13 s13 hr1 => ?_, fun j p ej bj _ => noBad j p ej bj⟩
      rw [eu] at hr1
      refine ⟨_, rfl, _, _, hr1, dp_same s13 _ _ hvd12, shu, shu, _, rfl, ?_⟩
      rw [ne_same' shu]
      have hG13 := s13 _ _ hG12
      refine iteF ⟨_, rfl, GA, rfl, ⟨_, .inl (.inl hG13)⟩, fun D2 hD2 => ?_⟩
      refine lc_data (K := K) (walk_list (xs := gs)) (fun i => (S[i]?).map pathI) hD2 (by omega) (fun H' s => .inl (.inl (s _ _ hG13))) (fun i _ d e => ?_) ?_ ?_
      · obtain ⟨p, _, rfl⟩ := Option.map_eq_some_iff.mp e
        exact flatDs_ints p
      · rintro i x H14 H15 hi s14 ⟨rfl, e2⟩ Q1 Q0 q1 q0
        obtain ⟨p, ep⟩ := getE (show i < S.length by omega)
        obtain ⟨q, rfl, hq⟩ := ((hpv i x p e2 ep).pathV.same s13).same s14
        refine ⟨rfl, ?_⟩
        rcases hq with hq | hq
        · exact ⟨_, rfl, .inl ⟨q, _, rfl, hq, fun t6 ht6 => q1 _ _ (pathI p) (by rw [ep]; rfl) (same_new ht6) (dp_pathI (.inl (.inl upd_same)))⟩⟩
        · exact ⟨_, rfl, .inr ⟨q, _, rfl, hq, q1 _ _ (pathI p) (by rw [ep]; rfl) (Same.refl _) (dp_pathI hq)⟩⟩
      · intro H14 acc s14 hacc ha
        rw [hgS, range_map] at ha
        have z14 := (z12.same s13).same s14
        refine ⟨_, rfl, _, _, .lst (.inl (.inl hacc)) ha, .lst (.inl (.inl z14.pa)) z14.pd, (lay_paths S).sh (by decide), (lay_paths S).sh (by decide), _, rfl, ?_⟩
        rw [ne_same' ((lay_paths S).sh (by decide))]
        refine iteF ⟨_, rfl, _, rfl, .inl ⟨PA, _, rfl, .inl (.inl z14.pa), fun t7 ht7 => ?_⟩⟩
        have s7 := same_new (o := .tup as) ht7
        have z15 := z14.same s7
        refine ⟨vt, t7, t, as, S, rfl, z15.tr, okt, by omega, .inr (.inl (.inl upd_same)), hal, fun i u' p e1 e2 => pathV_of z15.pd e1 e2, fun _ r2 H16 s16 hr2 => ?_, fun j p ej bj _ => noBad j p ej bj⟩
        rw [eu] at hr2
        have hvd16 := dp_same (((s13.trans s14).trans s7).trans s16) _ _ hvd12
        refine ⟨_, rfl, _, _, hr2, hvd16, shu, shu, _, rfl, ?_⟩
        rw [ne_same' shu]
        exact iteF ⟨_, _, rfl, z15.same s16, hvd16⟩
    clear hpv hG12 z12 hvd12 kk hh12 z11 hvd nG hGA
    have sht := (lay_enc 10 t okt dpt).sh (by decide)
    rintro σ' H13 ⟨v8a, v10, rfl, z13, hvd13⟩
    refine ⟨_, rfl, vd, u, rfl, hvd13, oku, by omega, by omega, fun r11 us11 H14 s14 hr11 hu11 => ?_⟩
    rw [kpu] at hu11
    have z14 := z13.same s14
    have hvd14 := dp_same s14 _ _ hvd13
    have hkl2 := DpAll.len z14.kd
    rw [List.length_map] at hkl2
    refine ⟨fun σ' H' => ∃ v8 : Option V, σ' = [some (.ref a), some (.ref h), some (.ref nm), some vi, some vt, some (.ref KA), some (.ref r6), some (.ref PA), v8, some vd, v10, some (.ref r11), none, none, none, none, none] ∧ Z2 K H' h c vt t KA ks PA as S ∧ Dp K H' vd u.enc, ?_, ?_⟩
    · refine ⟨_, rfl, _, rfl, KA, rfl, ⟨_, .inl (.inl z14.ka)⟩, fun D2 hD2 => ?_⟩
      refine lc_data (K := K) (walk_list (xs := ks)) (fun i => ((keepPaths t)[i]?).bind fun p => if (!decide (p ∈ S)) = true then some (pathI p) else none) hD2 (by omega) (fun H' s => .inl (.inl (s _ _ z14.ka))) (fun i _ d e => ?_) ?_ ?_
      · obtain ⟨p, _, e'⟩ := Option.bind_eq_some_iff.mp e
        split at e'
        · cases e'
          exact flatDs_ints p
        · cases e'
      · rintro i x H15 H16 hi s15 ⟨rfl, e2⟩ Q1 Q0 q1 q0
        obtain ⟨d, g1, g2⟩ := DpAll.atV z14.kd e2
        obtain ⟨p, ep, rfl⟩ := map_at g1
        have z15 := z14.same s15
        have g3 := dp_same s15 _ _ g2
        refine ⟨rfl, ?_⟩
        refine ⟨_, rfl, _, rfl, _, _, g3, .lst (.inl (.inl z15.pa)) z15.pd, (lay_path p).sh (by decide), (lay_paths S).sh (by decide), _, rfl, ?_⟩
        rw [any_path]
        by_cases q : (!decide (p ∈ S)) = true
        · rw [q]
          exact iteT ⟨_, rfl, q1 _ _ (pathI p) (by rw [ep]; show (if _ then _ else _) = _; rw [if_pos q]) (Same.refl _) g3⟩
        · rw [Bool.eq_false_iff.mpr q]
          exact iteF (q0 _ (by rw [ep]; show (if _ then _ else _) = _; rw [if_neg q]) (Same.refl _))
      · intro H15 acc s15 hacc ha
        rw [hkl2, range_filter] at ha
        have z15 := z14.same s15
        refine .inl ⟨D2, _, rfl, .inl (.inl hacc), fun t6 ht6 => ?_⟩
        have s6 := same_new (o := .tup acc) ht6
        refine ⟨_, _, .tup (sqt_same (s15.trans s6) hr11) (dps_same (s15.trans s6) _ _ hu11), .tup (.inl (.inl upd_same)) (dps_same s6 _ _ ha), (lay_pathsT _).sh (by decide), (lay_pathsT _).sh (by decide), _, rfl, ?_⟩
        rw [ne_same' ((lay_pathsT _).sh (by decide))]
        have z16 := z15.same s6
        refine iteF ⟨_, rfl, by show 0 ≤ sizeLine; decide, fun l0 hl0 => ?_⟩
        have s17 := same_new (o := .lst []) hl0
        have z17 := z16.same s17
        refine ⟨vt, l0, t, [], [], rfl, z17.tr, okt, by omega, .inl (.inl (.inl upd_same)), rfl, (fun i u' p e => by simp at e), fun _ r2 H18 s18 hr2 => ?_, fun j p ej => by simp at ej⟩
        rw [rw_nil] at hr2
        have z18 := z17.same s18
        refine ⟨_, rfl, _, _, hr2, z18.tr, sht, sht, _, rfl, ?_⟩
        rw [ne_same' sht]
        exact iteF ⟨_, rfl, z18, dp_same (((s15.trans s6).trans s17).trans s18) _ _ hvd14⟩
    clear z13 z14 hvd13 hvd14 hr11 hu11 s14
    rintro σ' H15 ⟨v8b, rfl, z15, hvd15⟩
    refine ⟨fun σ' H' => ∃ (OA : Addr) (os : List V) (O : List (List Int)) (v8 : Option V), σ' = [some (.ref a), some (.ref h), some (.ref nm), some vi, some vt, some (.ref KA), some (.ref r6), some (.ref PA), v8, some vd, v10, some (.ref r11), some (.ref OA), none, none, none, none] ∧ Z2 K H' h c vt t KA ks PA as S ∧ Dp K H' vd u.enc ∧
      H' OA = some (.lst os) ∧ DpAll K H' os (O.map pathI) ∧ OA ≠ h ∧ O.length ≤ 400 ∧ ∀ p ∈ O, keepAt t p = false, ?_, ?_⟩
    · refine ⟨_, rfl, by show 0 ≤ sizeLine; decide, fun e2 he2 => ?_⟩
      have s2 := same_new (o := .tup []) he2
      have z16 := z15.same s2
      refine ⟨vt, e2, t, [], rfl, z16.tr, okt, by omega, by omega, .inl (.inl upd_same), by decide, fun QA qs H17 s17 nQA hQA hqs => ?_⟩
      have eqs : (t.paths.map fun p => ([] : List Int) ++ p) = t.paths := List.map_id _
      rw [eqs] at hqs
      have z17 := z16.same s17
      have hql := DpAll.len hqs
      rw [List.length_map] at hql
      have hpl := paths_len t
      refine ⟨QA, rfl, ⟨_, .inl (.inl hQA)⟩, fun OA hOA => ?_⟩
      refine lc_data (K := K) (walk_list (xs := qs)) (fun i => ((t.paths)[i]?).bind fun p => if (!decide (p ∈ keepPaths t)) = true then some (pathI p) else none) hOA (by omega) (fun H' s => .inl (.inl (s _ _ hQA))) (fun i _ d e => ?_) ?_ ?_
      · obtain ⟨p, _, e'⟩ := Option.bind_eq_some_iff.mp e
        split at e'
        · cases e'
          exact flatDs_ints p
        · cases e'
      · rintro i x H18 H19 hi s18 ⟨rfl, e2⟩ Q1 Q0 q1 q0
        obtain ⟨d, g1, g2⟩ := DpAll.atV hqs e2
        obtain ⟨p, ep, rfl⟩ := map_at g1
        have z18 := z17.same s18
        have g3 := dp_same s18 _ _ g2
        refine ⟨rfl, ?_⟩
        refine ⟨_, rfl, _, rfl, _, _, g3, .lst (.inl (.inl z18.ka)) z18.kd, (lay_path p).sh (by decide), (lay_paths _).sh (by decide), _, rfl, ?_⟩
        rw [any_path]
        by_cases q : (!decide (p ∈ keepPaths t)) = true
        · rw [q]
          exact iteT ⟨_, rfl, q1 _ _ (pathI p) (by rw [ep]; show (if _ then _ else _) = _; rw [if_pos q]) (Same.refl _) g3⟩
        · rw [Bool.eq_false_iff.mpr q]
          exact iteF (q0 _ (by rw [ep]; show (if _ then _ else _) = _; rw [if_neg q]) (Same.refl _))
      · intro H18 acc s18 hacc ha
        rw [hql, range_filter] at ha
        refine ⟨OA, acc, _, _, rfl, z17.same s18, dp_same ((s2.trans s17).trans s18) _ _ hvd15, hacc, ha, (z17.hand.there hOA).1, ?_, fun p m => ?_⟩
        · refine Nat.le_trans (List.length_filter_le ..) ?_
          omega
        · obtain ⟨m1, m2⟩ := List.mem_filter.mp m
          exact keepAt_other m1 (fun z => by simp [z] at m2)
    clear z15 hvd15
    rintro σ' H16 ⟨OA, os, O, v8c, rfl, z16, hvd16, hOA, hos, nOA, hol, hOb⟩
    have hosl := DpAll.len hos
    rw [List.length_map] at hosl
    refine ⟨fun σ' H' => ∃ (WA : Addr) (ws : List V) (W : List (List Int)), σ' = [some (.ref a), some (.ref h), some (.ref nm), some vi, some vt, some (.ref KA), some (.ref r6), some (.ref PA), v8c, some vd, v10, some (.ref r11), some (.ref OA), some (.ref WA), none, none, none] ∧ Z2 K H' h c vt t KA ks PA as S ∧ Dp K H' vd u.enc ∧
      H' WA = some (.lst ws) ∧ DpAll K H' ws (W.map pathI) ∧ W.length ≤ 1 ∧ ∀ p ∈ W, keepAt t p = false, ?_, ?_⟩
    · refine ⟨_, rfl, OA, _, rfl, .inl (.inl (.inl hOA)), _, _, rfl, rfl, _, rfl, ?_⟩
      refine ite2 (fun hpos => ?_) (fun _ => ⟨by show 0 ≤ sizeLine; decide, fun WA hWA => ?_⟩)
      · have hpos' : 0 < os.length := by
          have := of_decide_eq_true hpos
          omega
        refine ⟨_, rfl, _, rfl, _, rfl, OA, _, rfl, .inl (.inl (.inl hOA)), h, c, _, rfl, z16.hand, by omega, Int.lt_of_le_of_lt (show (os.length : Int) ≤ 400 by omega) (by decide), fun n H17 n0 n1 k17 hh17 => ?_⟩
        obtain ⟨m, rfl⟩ : ∃ m : Nat, n = (m : Int) := ⟨n.toNat, by omega⟩
        obtain ⟨v, ev⟩ := getE (show m < os.length by omega)
        obtain ⟨p, ep⟩ := getE (show m < O.length by omega)
        have hos7 := dps_keep (fun _ _ q => k17.tup q) _ _ (flat_pathI O) hos
        refine ⟨OA, _, _, v, rfl, rfl, .inl (.inl (k17.st _ _ nOA hOA)), atI_nat ev, by show 1 ≤ sizeLine; decide, fun WA hWA => ?_⟩
        have s18 := same_new (o := .lst [v]) hWA
        obtain ⟨d, g1, g2⟩ := DpAll.atV hos7 ev
        obtain ⟨p', ep', rfl⟩ := map_at g1
        exact ⟨WA, [v], [p'], rfl, (z16.kp k17 hh17).same s18, dp_same s18 _ _ (dp_keep (fun _ _ q => k17.tup q) _ _ flu hvd16), upd_same, .cons (dp_same s18 _ _ g2) .nil, Nat.le_refl _, fun z m => by
          cases List.mem_singleton.mp m
          exact hOb _ (List.mem_of_getElem? ep')⟩
      · have s18 := same_new (o := .lst []) hWA
        exact ⟨WA, [], [], rfl, z16.same s18, dp_same s18 _ _ hvd16, upd_same, .nil, by decide, fun z m => by cases m⟩
    clear hOA hos nOA hOb z16 hvd16
    rintro σ' H17 ⟨WA, ws, W, rfl, z17, hvd17, hWA, hws, hwl, hWb⟩
    have hwsl := DpAll.len hws
    rw [List.length_map] at hwsl
    refine ⟨fun σ' H' => ∃ (VA : Addr) (vs : List V) (W : List (List Int)), σ' = [some (.ref a), some (.ref h), some (.ref nm), some vi, some vt, some (.ref KA), some (.ref r6), some (.ref PA), v8c, some vd, v10, some (.ref r11), some (.ref OA), some (.ref VA), none, none, none] ∧ Z2 K H' h c vt t KA ks PA as S ∧ Dp K H' vd u.enc ∧
      H' VA = some (.lst vs) ∧ DpAll K H' vs (W.map pathI) ∧ VA ≠ h ∧ W.length ≤ 5 ∧ 0 < W.length ∧ ∀ p ∈ W, keepAt t p = false, ?_, ?_⟩
    · refine ⟨_, rfl, by show 1 ≤ sizeLine; decide, fun tz htz => ?_⟩
      have s1 := same_new (o := .tup [.int 0]) htz
      have hz : SqT K (upd H17 tz (.tup [.int 0])) tz [.int 0] := .inl (.inl upd_same)
      generalize upd H17 tz (.tup [.int 0]) = H18 at *
      refine ⟨tz, 31, [.int 0], rfl, rfl, hz, by simp, by decide, by decide, by decide, fun t1 ht1 => ?_⟩
      have e31 : (List.replicate (31 : Int).toNat [V.int 0]).flatten = (List.replicate 31 (0 : Int)).map V.int := by rfl
      rw [e31]
      have s2 := same_new (o := .tup ((List.replicate 31 (0 : Int)).map V.int)) ht1
      have hp1 : SqT K (upd H18 t1 (.tup ((List.replicate 31 (0 : Int)).map V.int))) t1 ((List.replicate 31 (0 : Int)).map V.int) := .inl (.inl upd_same)
      generalize upd H18 t1 (.tup ((List.replicate 31 (0 : Int)).map V.int)) = H19 at *
      refine ⟨_, rfl, by show 1 ≤ sizeLine; decide, fun t2 ht2 => ?_⟩
      have s3 := same_new (o := .tup [.int (-1)]) ht2
      have hp2 : SqT K (upd H19 t2 (.tup [.int (-1)])) t2 (([-1] : List Int).map V.int) := .inl (.inl upd_same)
      generalize upd H19 t2 (.tup [.int (-1)]) = H20 at *
      refine ⟨by show 1 ≤ sizeLine; decide, fun t3 ht3 => ?_⟩
      have s4 := same_new (o := .tup [.int 11]) ht3
      have hp3 : SqT K (upd H20 t3 (.tup [.int 11])) t3 (([11] : List Int).map V.int) := .inl (.inl upd_same)
      generalize upd H20 t3 (.tup [.int 11]) = H21 at *
      have z21 := z17.same (((s1.trans s2).trans s3).trans s4)
      refine ⟨_, rfl, KA, _, rfl, .inl (.inl (.inl z21.ka)), _, _, rfl, rfl, _, rfl, ?_⟩
      have hksl := DpAll.len z21.kd
      rw [List.length_map] at hksl
      refine ite2 (fun hpos => ?_) (fun _ => ?_)
      · have hpos' : 0 < ks.length := by
          have := of_decide_eq_true hpos
          omega
        obtain ⟨v0, e0v⟩ := getE hpos'
        obtain ⟨d, g1, g2⟩ := DpAll.atV z21.kd e0v
        obtain ⟨p0, ep0, rfl⟩ := map_at g1
        obtain ⟨q0, rfl, hq0⟩ := pathI_inv g2
        have hl0 : p0.length < t.dep := paths_size t.dep t (Nat.le_refl _) p0 (List.mem_filter.mp (List.mem_of_getElem? ep0)).1
        refine ⟨_, rfl, KA, _, _, _, rfl, rfl, .inl (.inl z21.ka), atI_nat (j := 0) e0v, by show 1 ≤ sizeLine; decide, fun t5 ht5 => ?_⟩
        have s5 := same_new (o := .tup [.int 99]) ht5
        have hq99 : SqT K (upd H21 t5 (.tup [.int 99])) t5 (([99] : List Int).map V.int) := .inl (.inl upd_same)
        generalize upd H21 t5 (.tup [.int 99]) = H22 at *
        refine cat_any (sqt_same s5 hq0) hq99 (by rw [List.length_map]; exact Nat.le_trans (show p0.length + 1 ≤ 100 by omega) (by decide)) fun t6 H23 s5b hp4' => ?_
        have hp4 : SqT K H23 t6 ((p0 ++ [99]).map V.int) := by rw [List.map_append]; exact hp4'
        refine ⟨by show 4 ≤ sizeLine; decide, fun L hL => ?_⟩
        have s6 := same_new (o := .lst [.ref t1, .ref t2, .ref t3, .ref t6]) hL
        refine ⟨WA, L, _, _, rfl, rfl, ((((((s1.trans s2).trans s3).trans s4).trans s5).trans s5b).trans s6) _ _ hWA, upd_same, Nat.le_trans (show ws.length + 4 ≤ 10 by omega) (by decide), fun VA hVA => ?_⟩
        have s7 := same_new (o := .lst (ws ++ [.ref t1, .ref t2, .ref t3, .ref t6])) hVA
        have S7 := ((((((s1.trans s2).trans s3).trans s4).trans s5).trans s5b).trans s6).trans s7
        have z24 := z17.same S7
        refine ⟨VA, _, W ++ [List.replicate 31 0, [-1], [11], (p0 ++ [99])], rfl, z24, dp_same S7 _ _ hvd17, upd_same, ?_, ((z17.hand.same ((((((s1.trans s2).trans s3).trans s4).trans s5).trans s5b).trans s6)).there hVA).1, by rw [List.length_append]; show W.length + 4 ≤ 5; omega, by rw [List.length_append]; show 0 < W.length + 4; omega, four_bad okt dpt hWb (keepAt_far okt p0 (n := 99) (by decide))⟩
        rw [List.map_append]
        exact DpAll.app (dps_same S7 _ _ hws) (.cons (dp_pathI (sqt_same (((s3.trans s4).trans (s5.trans s5b)).trans (s6.trans s7)) hp1)) (.cons (dp_pathI (sqt_same ((s4.trans (s5.trans s5b)).trans (s6.trans s7)) hp2)) (.cons (dp_pathI (sqt_same ((s5.trans s5b).trans (s6.trans s7)) hp3)) (.cons (dp_pathI (sqt_same (s6.trans s7) hp4)) .nil))))
      · refine ⟨by show 1 ≤ sizeLine; decide, fun t5 ht5 => ?_⟩
        have s5 := same_new (o := .tup [.int 99]) ht5
        have hp4 : SqT K (upd H21 t5 (.tup [.int 99])) t5 (([99] : List Int).map V.int) := .inl (.inl upd_same)
        generalize upd H21 t5 (.tup [.int 99]) = H22 at *
        refine ⟨by show 4 ≤ sizeLine; decide, fun L hL => ?_⟩
        have s6 := same_new (o := .lst [.ref t1, .ref t2, .ref t3, .ref t5]) hL
        refine ⟨WA, L, _, _, rfl, rfl, (((((s1.trans s2).trans s3).trans s4).trans s5).trans s6) _ _ hWA, upd_same, Nat.le_trans (show ws.length + 4 ≤ 10 by omega) (by decide), fun VA hVA => ?_⟩
        have s7 := same_new (o := .lst (ws ++ [.ref t1, .ref t2, .ref t3, .ref t5])) hVA
        have S7 := (((((s1.trans s2).trans s3).trans s4).trans s5).trans s6).trans s7
        have z24 := z17.same S7
        refine ⟨VA, _, W ++ [List.replicate 31 0, [-1], [11], [99]], rfl, z24, dp_same S7 _ _ hvd17, upd_same, ?_, ((z17.hand.same (((((s1.trans s2).trans s3).trans s4).trans s5).trans s6)).there hVA).1, by rw [List.length_append]; show W.length + 4 ≤ 5; omega, by rw [List.length_append]; show 0 < W.length + 4; omega, four_bad okt dpt hWb (keepAt_far okt [] (n := 99) (by decide))⟩
        rw [List.map_append]
        exact DpAll.app (dps_same S7 _ _ hws) (.cons (dp_pathI (sqt_same (((s3.trans s4).trans s5).trans (s6.trans s7)) hp1)) (.cons (dp_pathI (sqt_same ((s4.trans s5).trans (s6.trans s7)) hp2)) (.cons (dp_pathI (sqt_same (s5.trans (s6.trans s7)) hp3)) (.cons (dp_pathI (sqt_same (s6.trans s7) hp4)) .nil))))
    clear hWA hws hWb z17 hvd17 hwsl hwl
    rintro σ' H18 ⟨VA, vs, Wd, rfl, z18, hvd18, hVA, hvs, nVA, hwl, hw0, hWb⟩
    have hvl := DpAll.len hvs
    rw [List.length_map] at hvl
    refine ⟨_, rfl, _, rfl, _, rfl, VA, _, rfl, .inl (.inl (.inl hVA)), h, c, _, rfl, z18.hand, by omega, Int.lt_of_le_of_lt (show (vs.length : Int) ≤ 5 by omega) (by decide), fun n H19 n0 n1 k19 hh19 => ?_⟩
    obtain ⟨m1, rfl⟩ : ∃ m : Nat, n = (m : Int) := ⟨n.toNat, by omega⟩
    obtain ⟨vb, evb⟩ := getE (show m1 < vs.length by omega)
    obtain ⟨bad, ebad⟩ := getE (show m1 < Wd.length by omega)
    refine ⟨VA, _, _, vb, rfl, rfl, .inl (.inl (k19.st _ _ nVA hVA)), atI_nat evb, ?_⟩
    have z19 := z18.kp k19 hh19
    refine ⟨_, rfl, _, rfl, _, rfl, VA, _, rfl, .inl (.inl (.inl (k19.st _ _ nVA hVA))), h, c, _, rfl, hh19, by omega, Int.lt_of_le_of_lt (show (vs.length : Int) ≤ 5 by omega) (by decide), fun n H20 n0 n1 k20' hh20 => ?_⟩
    obtain ⟨m2, rfl⟩ : ∃ m : Nat, n = (m : Int) := ⟨n.toNat, by omega⟩
    obtain ⟨va, eva⟩ := getE (show m2 < vs.length by omega)
    obtain ⟨again, eag⟩ := getE (show m2 < Wd.length by omega)
    have k20 := k19.trans k20'
    refine ⟨VA, _, _, va, rfl, rfl, .inl (.inl (k20.st _ _ nVA hVA)), atI_nat eva, ?_⟩
    have z20 := z18.kp k20 hh20
    refine ⟨_, rfl, _, rfl, PA, _, rfl, .inl (.inl (.inl z20.pa)), _, _, rfl, rfl, h, c, _, rfl, hh20, by omega, Int.lt_of_le_of_lt (show (as.length : Int) + 1 ≤ 402 by omega) (by decide), fun n H21 n0 n1 k21' hh21 => ?_⟩
    obtain ⟨m, rfl⟩ : ∃ m : Nat, n = (m : Int) := ⟨n.toNat, by omega⟩
    have k21 := k20.trans k21'
    have z21 := z18.kp k21 hh21
    have hvd21 := dp_keep (fun _ _ q => k21.tup q) _ _ flu hvd18
    have hvs21 := dps_keep (fun _ _ q => k21.tup q) _ _ (flat_pathI Wd) hvs
    obtain ⟨db, g1, gb⟩ := DpAll.atV hvs21 evb
    obtain ⟨bad', eb', rfl⟩ := map_at g1
    rw [ebad] at eb'
    cases eb'
    obtain ⟨da, g1', ga⟩ := DpAll.atV hvs21 eva
    obtain ⟨again', ea', rfl⟩ := map_at g1'
    rw [eag] at ea'
    cases ea'
    obtain ⟨tb, rfl, htb⟩ := pathI_inv gb
    have hbad := hWb _ (List.mem_of_getElem? ebad)
    have hm : m ≤ S.length := by omega
    refine ⟨fun σ' H' => σ' = [some (.ref a), some (.ref h), some (.ref nm), some vi, some vt, some (.ref KA), some (.ref r6), some (.ref PA), v8c, some vd, v10, some (.ref r11), some (.ref OA), some (.ref VA), some (.ref tb), some va, some (.int (m : Nat))] ∧ Z2 K H' h c vt t KA ks PA as S ∧ Dp K H' vd u.enc, ?_, ?_⟩
    · refine ⟨_, rfl, _, rfl, _, rfl, _, rfl, PA, _, rfl, .inl (.inl z21.pa), fun p1 hp1 => ?_⟩
      rw [cut_to (by omega)]
      have s1 := same_new (o := .lst (as.take m)) hp1
      have e1 : (upd H21 p1 (.lst (as.take m))) p1 = some (.lst (as.take m)) := upd_same
      generalize upd H21 p1 (.lst (as.take m)) = A1 at *
      refine ⟨_, rfl, tb, _, rfl, .inr (sqt_same s1 htb), fun lb hlb => ?_⟩
      have s2 := same_new (o := .lst (bad.map V.int)) hlb
      have e2 : (upd A1 lb (.lst (bad.map V.int))) lb = some (.lst (bad.map V.int)) := upd_same
      generalize upd A1 lb (.lst (bad.map V.int)) = A2 at *
      refine ⟨by show 1 ≤ sizeLine; decide, fun l1 hl1 => ?_⟩
      have s3 := same_new (o := .lst [.ref lb]) hl1
      have e3 : (upd A2 l1 (.lst [.ref lb])) l1 = some (.lst [.ref lb]) := upd_same
      generalize upd A2 l1 (.lst [.ref lb]) = A3 at *
      have htl : (as.take m).length ≤ 401 := by rw [List.length_take]; omega
      have hdl : (as.drop m).length ≤ 401 := by rw [List.length_drop]; omega
      refine ⟨p1, l1, _, _, rfl, rfl, (s2.trans s3) _ _ e1, e3, Nat.le_trans (show (as.take m).length + 1 ≤ 1000 by omega) (by decide), fun q1 hq1 => ?_⟩
      have s4 := same_new (o := .lst (as.take m ++ [.ref lb])) hq1
      have e4 : (upd A3 q1 (.lst (as.take m ++ [.ref lb]))) q1 = some (.lst (as.take m ++ [.ref lb])) := upd_same
      generalize upd A3 q1 (.lst (as.take m ++ [.ref lb])) = A4 at *
      have z4 := z21.same (((s1.trans s2).trans s3).trans s4)
      refine ⟨_, rfl, _, rfl, _, rfl, PA, _, rfl, .inl (.inl z4.pa), fun p2 hp2 => ?_⟩
      rw [cut_from (by omega)]
      have s5 := same_new (o := .lst (as.drop m)) hp2
      have e5 : (upd A4 p2 (.lst (as.drop m))) p2 = some (.lst (as.drop m)) := upd_same
      generalize upd A4 p2 (.lst (as.drop m)) = A5 at *
      refine ⟨q1, p2, _, _, rfl, rfl, s5 _ _ e4, e5, Nat.le_trans (show (as.take m ++ [V.ref lb]).length + (as.drop m).length ≤ 1000 by rw [List.length_append]; show (as.take m).length + 1 + _ ≤ _; omega) (by decide), fun q2 hq2 => ?_⟩
      have s6 := same_new (o := .lst ((as.take m ++ [.ref lb]) ++ as.drop m)) hq2
      have e6 : (upd A5 q2 (.lst ((as.take m ++ [.ref lb]) ++ as.drop m))) q2 = some (.lst ((as.take m ++ [.ref lb]) ++ as.drop m)) := upd_same
      generalize upd A5 q2 (.lst ((as.take m ++ [.ref lb]) ++ as.drop m)) = A6 at *
      refine ⟨_, rfl, by show 1 ≤ sizeLine; decide, fun l2 hl2 => ?_⟩
      have s7 := same_new (o := .lst [va]) hl2
      have e7 : (upd A6 l2 (.lst [va])) l2 = some (.lst [va]) := upd_same
      generalize upd A6 l2 (.lst [va]) = A7 at *
      refine ⟨q2, l2, _, _, rfl, rfl, s7 _ _ e6, e7, Nat.le_trans (show ((as.take m ++ [V.ref lb]) ++ as.drop m).length + 1 ≤ 1000 by rw [List.length_append, List.length_append]; show (as.take m).length + 1 + _ + 1 ≤ _; omega) (by decide), fun q3 hq3 => ?_⟩
      have s8 := same_new (o := .lst (((as.take m ++ [.ref lb]) ++ as.drop m) ++ [va])) hq3
      have e8 : (upd A7 q3 (.lst (((as.take m ++ [.ref lb]) ++ as.drop m) ++ [va]))) q3 = some (.lst (((as.take m ++ [.ref lb]) ++ as.drop m) ++ [va])) := upd_same
      generalize upd A7 q3 (.lst (((as.take m ++ [.ref lb]) ++ as.drop m) ++ [va])) = A8 at *
      have s28 := ((((s3.trans s4).trans s5).trans s6).trans s7).trans s8
      have z8 := z21.same ((s1.trans s2).trans s28)
      have ga8 := dp_same ((s1.trans s2).trans s28) _ _ ga
      obtain ⟨tg, rfl, htg⟩ := pathI_inv ga8
      have pvs : PVs K A8 (((as.take m ++ [.ref lb]) ++ as.drop m) ++ [.ref tg]) (((S.take m ++ [bad]) ++ S.drop m) ++ [again]) :=
        (((PVs.of (DpAll.mapTake m z8.pd)).app (PVs.one ⟨lb, rfl, .inl (.inl (.inl (s28 _ _ e2)))⟩)).app (PVs.of (DpAll.mapDrop m z8.pd))).app (PVs.one ⟨tg, rfl, .inr htg⟩)
      obtain ⟨mb1, mb2⟩ := mid_bad hm bad again
      refine ⟨vt, q3, t, _, _, rfl, z8.tr, okt, by omega, .inl (.inl (.inl e8)), pvs.len, pvs.at_, m, bad, mb1, hbad, fun q hq => ?_, fun tp H9 s9 htp => ?_⟩
      · rw [mb2] at hq
        exact keepAt_of_mem (z8.si q (List.mem_of_mem_take hq))
      · refine ⟨_, rfl, _, _, dp_pathI htp, dp_pathI (sqt_same (((s1.trans s2).trans s28).trans s9) htb), (lay_path bad).sh (by decide), (lay_path bad).sh (by decide), _, rfl, ?_⟩
        rw [ne_same' ((lay_path bad).sh (by decide))]
        exact iteF ⟨rfl, z8.same s9, dp_same (((s1.trans s2).trans s28).trans s9) _ _ hvd21⟩
    clear z18 z19 z20 z21 hvd18 hvd21 hvs hvs21 hVA hWb
    rintro σ' H22 ⟨rfl, z22, hvd22⟩
    have tr : ∀ {d : PyData} {A B : Prop}, SeqAt.shaped d = true → A → if PyData.eqv d d = true then A else B := fun {d A B} h a => by
      rw [SeqAt.eqv_refl d (SeqAt.canLay_of_shaped h)]
      exact iteT a
    refine ⟨_, rfl, _, rfl, vt, PA, t, as, S, rfl, z22.tr, okt, by omega, .inl (.inl (.inl z22.pa)), hal, fun i u' p e1 e2 => pathV_of z22.pd e1 e2, fun _ r1 H23 s23 hr1 => ?_, fun j p ej bj _ => noBad j p ej bj⟩
    rw [eu] at hr1
    have z23 := z22.same s23
    refine ⟨_, rfl, _, _, hr1, dp_same s23 _ _ hvd22, shu, shu, _, rfl, tr shu ?_⟩
    refine ⟨_, rfl, by show 0 ≤ sizeLine; decide, fun l0 hl0 => ?_⟩
    have s24 := same_new (o := .lst []) hl0
    have z24 := z23.same s24
    have hvd24 := dp_same (s23.trans s24) _ _ hvd22
    have el0 : (upd H23 l0 (.lst [])) l0 = some (.lst []) := upd_same
    generalize upd H23 l0 (.lst []) = H24 at *
    refine ⟨_, _, .lst (.inl (.inl z24.pa)) z24.pd, .lst (.inl (.inl el0)) .nil, (lay_paths S).sh (by decide), (lay_paths []).sh (by decide), _, rfl, ?_⟩
    cases S with
    | nil => exact tr (d := .list []) ((lay_paths []).sh (by decide)) (k _)
    | cons p S' =>
      have ne : PyData.eqv (.list ((p :: S').map pathI)) (.list []) = false := by simp [PyData.eqv, PyData.eqvAll]
      rw [ne]
      refine iteF ?_
      obtain ⟨v0, e0v⟩ := getE (show 0 < as.length by rw [hal]; exact Nat.succ_pos _)
      refine ⟨_, rfl, _, rfl, vd, PA, u, as, p :: S', rfl, hvd24, oku, by omega, .inl (.inl (.inl z24.pa)), hal, fun i u' p e1 e2 => pathV_of z24.pd e1 e2, 0, p, rfl, told p List.mem_cons_self, fun q m => by simp at m, fun tp H25 s25 htp => ?_⟩
      have z25 := z24.same s25
      obtain ⟨d0, g1, g2⟩ := DpAll.atV z25.pd e0v
      obtain ⟨p', e0p, rfl⟩ := map_at g1
      cases e0p
      refine ⟨_, rfl, PA, _, _, _, rfl, rfl, .inl (.inl z25.pa), atI_nat (j := 0) e0v, _, _, dp_pathI htp, g2, (lay_path p).sh (by decide), (lay_path p).sh (by decide), ?_⟩
      rw [SeqAt.eqv_refl _ (SeqAt.canLay_of_shaped ((lay_path p).sh (by decide)))]
      exact k _
end
end K26

namespace K26
open PySem L2 Cm
theorem at_mk {K : PySem.W.Frag} {h : Heap} {mg : Str → Option Value} {x : Str} {st : Stmt} {ps : List Str} {f : Addr} {oc : Value} {od an : Option Addr} {osl : Array (Option Value)} {kV doc pm cdv ct : Value} (X : K.In h) (G : h.Ns mainGlobals mg)
    (a : PySem.W.nsIn K mainGlobals x = some (some (.ref f))) (l : K.lookup f = some ⟨oc, od, .func (PySem.W.fnOf x x (defArgs st) (defBody st) (defScope st) .none kV doc pm an cdv ct), osl⟩) (c : PySem.W.codeIn K cdv x = true) (k : PySem.W.keepIn K (.ref f) = true)
    (b : ∀ (kV doc pm : Value) (an : Option Addr) (cdv ct : Value) (us : List Value), us.length = ps.length → bindArgs (PySem.W.fnOf x x (defArgs st) (defBody st) (defScope st) .none kV doc pm an cdv ct) ⟨us, []⟩ = pure (ps.zip us)) : At K mg x st ps :=
  ⟨_, _, fun_mk l c k, PySem.W.mg_of X G a, (fun_mk l c k).binds b⟩
theorem all_mk {l : PySem.W.OpenLaw} {w : World} {K : PySem.W.Frag} {h : Heap} {mg : Str → Option Value} {fa f0 f1 f2 f3 f4 f5 f6 f7 f8 f9 f10 f11 f12 f13 f14 f15 f16 f17 f18 f19 f20 f21 : Addr} (X : K.In h) (G : h.Ns mainGlobals mg) (hfa : mg "law" = some (.ref fa))
    {od0 an0 : Option Addr} {sl0 : Array (Option Value)} {oc0 kV0 dc0 pm0 cd0 ct0 : Value} (a0 : PySem.W.nsIn K mainGlobals "_law_mix" = some (some (.ref f0))) (l0 : K.lookup f0 = some ⟨oc0, od0, .func (PySem.W.fnOf "_law_mix" "_law_mix" (defArgs s_l_mix) (defBody s_l_mix) (defScope s_l_mix) .none kV0 dc0 pm0 an0 cd0 ct0), sl0⟩) (c0 : PySem.W.codeIn K cd0 "_law_mix" = true) (k0 : PySem.W.keepIn K (.ref f0) = true)
    {od1 an1 : Option Addr} {sl1 : Array (Option Value)} {oc1 kV1 dc1 pm1 cd1 ct1 : Value} (a1 : PySem.W.nsIn K mainGlobals "_law_hand" = some (some (.ref f1))) (l1 : K.lookup f1 = some ⟨oc1, od1, .func (PySem.W.fnOf "_law_hand" "_law_hand" (defArgs s_l_hand) (defBody s_l_hand) (defScope s_l_hand) .none kV1 dc1 pm1 an1 cd1 ct1), sl1⟩) (c1 : PySem.W.codeIn K cd1 "_law_hand" = true) (k1 : PySem.W.keepIn K (.ref f1) = true)
    {od2 an2 : Option Addr} {sl2 : Array (Option Value)} {oc2 kV2 dc2 pm2 cd2 ct2 : Value} (a2 : PySem.W.nsIn K mainGlobals "_law_draw" = some (some (.ref f2))) (l2 : K.lookup f2 = some ⟨oc2, od2, .func (PySem.W.fnOf "_law_draw" "_law_draw" (defArgs s_l_draw) (defBody s_l_draw) (defScope s_l_draw) .none kV2 dc2 pm2 an2 cd2 ct2), sl2⟩) (c2 : PySem.W.codeIn K cd2 "_law_draw" = true) (k2 : PySem.W.keepIn K (.ref f2) = true)
    {od3 an3 : Option Addr} {sl3 : Array (Option Value)} {oc3 kV3 dc3 pm3 cd3 ct3 : Value} (a3 : PySem.W.nsIn K mainGlobals "_law_pick" = some (some (.ref f3))) (l3 : K.lookup f3 = some ⟨oc3, od3, .func (PySem.W.fnOf "_law_pick" "_law_pick" (defArgs s_l_pick) (defBody s_l_pick) (defScope s_l_pick) .none kV3 dc3 pm3 an3 cd3 ct3), sl3⟩) (c3 : PySem.W.codeIn K cd3 "_law_pick" = true) (k3 : PySem.W.keepIn K (.ref f3) = true)
    {od4 an4 : Option Addr} {sl4 : Array (Option Value)} {oc4 kV4 dc4 pm4 cd4 ct4 : Value} (a4 : PySem.W.nsIn K mainGlobals "_law_any_leaf" = some (some (.ref f4))) (l4 : K.lookup f4 = some ⟨oc4, od4, .func (PySem.W.fnOf "_law_any_leaf" "_law_any_leaf" (defArgs s_l_any_leaf) (defBody s_l_any_leaf) (defScope s_l_any_leaf) .none kV4 dc4 pm4 an4 cd4 ct4), sl4⟩) (c4 : PySem.W.codeIn K cd4 "_law_any_leaf" = true) (k4 : PySem.W.keepIn K (.ref f4) = true)
    {od5 an5 : Option Addr} {sl5 : Array (Option Value)} {oc5 kV5 dc5 pm5 cd5 ct5 : Value} (a5 : PySem.W.nsIn K mainGlobals "_law_any_names" = some (some (.ref f5))) (l5 : K.lookup f5 = some ⟨oc5, od5, .func (PySem.W.fnOf "_law_any_names" "_law_any_names" (defArgs s_l_any_names) (defBody s_l_any_names) (defScope s_l_any_names) .none kV5 dc5 pm5 an5 cd5 ct5), sl5⟩) (c5 : PySem.W.codeIn K cd5 "_law_any_names" = true) (k5 : PySem.W.keepIn K (.ref f5) = true)
    {od6 an6 : Option Addr} {sl6 : Array (Option Value)} {oc6 kV6 dc6 pm6 cd6 ct6 : Value} (a6 : PySem.W.nsIn K mainGlobals "_law_any_fun" = some (some (.ref f6))) (l6 : K.lookup f6 = some ⟨oc6, od6, .func (PySem.W.fnOf "_law_any_fun" "_law_any_fun" (defArgs s_l_any_fun) (defBody s_l_any_fun) (defScope s_l_any_fun) .none kV6 dc6 pm6 an6 cd6 ct6), sl6⟩) (c6 : PySem.W.codeIn K cd6 "_law_any_fun" = true) (k6 : PySem.W.keepIn K (.ref f6) = true)
    {od7 an7 : Option Addr} {sl7 : Array (Option Value)} {oc7 kV7 dc7 pm7 cd7 ct7 : Value} (a7 : PySem.W.nsIn K mainGlobals "_law_any" = some (some (.ref f7))) (l7 : K.lookup f7 = some ⟨oc7, od7, .func (PySem.W.fnOf "_law_any" "_law_any" (defArgs s_l_any) (defBody s_l_any) (defScope s_l_any) .none kV7 dc7 pm7 an7 cd7 ct7), sl7⟩) (c7 : PySem.W.codeIn K cd7 "_law_any" = true) (k7 : PySem.W.keepIn K (.ref f7) = true)
    {od8 an8 : Option Addr} {sl8 : Array (Option Value)} {oc8 kV8 dc8 pm8 cd8 ct8 : Value} (a8 : PySem.W.nsIn K mainGlobals "parts_of" = some (some (.ref f8))) (l8 : K.lookup f8 = some ⟨oc8, od8, .func (PySem.W.fnOf "parts_of" "parts_of" (defArgs s_p_parts_of) (defBody s_p_parts_of) (defScope s_p_parts_of) .none kV8 dc8 pm8 an8 cd8 ct8), sl8⟩) (c8 : PySem.W.codeIn K cd8 "parts_of" = true) (k8 : PySem.W.keepIn K (.ref f8) = true)
    {od9 an9 : Option Addr} {sl9 : Array (Option Value)} {oc9 kV9 dc9 pm9 cd9 ct9 : Value} (a9 : PySem.W.nsIn K mainGlobals "with_parts" = some (some (.ref f9))) (l9 : K.lookup f9 = some ⟨oc9, od9, .func (PySem.W.fnOf "with_parts" "with_parts" (defArgs s_p_with_parts) (defBody s_p_with_parts) (defScope s_p_with_parts) .none kV9 dc9 pm9 an9 cd9 ct9), sl9⟩) (c9 : PySem.W.codeIn K cd9 "with_parts" = true) (k9 : PySem.W.keepIn K (.ref f9) = true)
    {od10 an10 : Option Addr} {sl10 : Array (Option Value)} {oc10 kV10 dc10 pm10 cd10 ct10 : Value} (a10 : PySem.W.nsIn K mainGlobals "tree_at" = some (some (.ref f10))) (l10 : K.lookup f10 = some ⟨oc10, od10, .func (PySem.W.fnOf "tree_at" "tree_at" (defArgs s_p_tree_at) (defBody s_p_tree_at) (defScope s_p_tree_at) .none kV10 dc10 pm10 an10 cd10 ct10), sl10⟩) (c10 : PySem.W.codeIn K cd10 "tree_at" = true) (k10 : PySem.W.keepIn K (.ref f10) = true)
    {od11 an11 : Option Addr} {sl11 : Array (Option Value)} {oc11 kV11 dc11 pm11 cd11 ct11 : Value} (a11 : PySem.W.nsIn K mainGlobals "tree_with" = some (some (.ref f11))) (l11 : K.lookup f11 = some ⟨oc11, od11, .func (PySem.W.fnOf "tree_with" "tree_with" (defArgs s_p_tree_with) (defBody s_p_tree_with) (defScope s_p_tree_with) .none kV11 dc11 pm11 an11 cd11 ct11), sl11⟩) (c11 : PySem.W.codeIn K cd11 "tree_with" = true) (k11 : PySem.W.keepIn K (.ref f11) = true)
    {od12 an12 : Option Addr} {sl12 : Array (Option Value)} {oc12 kV12 dc12 pm12 cd12 ct12 : Value} (a12 : PySem.W.nsIn K mainGlobals "tree_paths" = some (some (.ref f12))) (l12 : K.lookup f12 = some ⟨oc12, od12, .func (PySem.W.fnOf "tree_paths" "tree_paths" (defArgs s_p_tree_paths) (defBody s_p_tree_paths) (defScope s_p_tree_paths) .none kV12 dc12 pm12 an12 cd12 ct12), sl12⟩) (c12 : PySem.W.codeIn K cd12 "tree_paths" = true) (k12 : PySem.W.keepIn K (.ref f12) = true)
    {od13 an13 : Option Addr} {sl13 : Array (Option Value)} {oc13 kV13 dc13 pm13 cd13 ct13 : Value} (a13 : PySem.W.nsIn K mainGlobals "keep_paths" = some (some (.ref f13))) (l13 : K.lookup f13 = some ⟨oc13, od13, .func (PySem.W.fnOf "keep_paths" "keep_paths" (defArgs s_p_keep_paths) (defBody s_p_keep_paths) (defScope s_p_keep_paths) .none kV13 dc13 pm13 an13 cd13 ct13), sl13⟩) (c13 : PySem.W.codeIn K cd13 "keep_paths" = true) (k13 : PySem.W.keepIn K (.ref f13) = true)
    {od14 an14 : Option Addr} {sl14 : Array (Option Value)} {oc14 kV14 dc14 pm14 cd14 ct14 : Value} (a14 : PySem.W.nsIn K mainGlobals "with_once" = some (some (.ref f14))) (l14 : K.lookup f14 = some ⟨oc14, od14, .func (PySem.W.fnOf "with_once" "with_once" (defArgs s_p_with_once) (defBody s_p_with_once) (defScope s_p_with_once) .none kV14 dc14 pm14 an14 cd14 ct14), sl14⟩) (c14 : PySem.W.codeIn K cd14 "with_once" = true) (k14 : PySem.W.keepIn K (.ref f14) = true)
    {od15 an15 : Option Addr} {sl15 : Array (Option Value)} {oc15 kV15 dc15 pm15 cd15 ct15 : Value} (a15 : PySem.W.nsIn K mainGlobals "_law_parts" = some (some (.ref f15))) (l15 : K.lookup f15 = some ⟨oc15, od15, .func (PySem.W.fnOf "_law_parts" "_law_parts" (defArgs s_l_parts) (defBody s_l_parts) (defScope s_l_parts) .none kV15 dc15 pm15 an15 cd15 ct15), sl15⟩) (c15 : PySem.W.codeIn K cd15 "_law_parts" = true) (k15 : PySem.W.keepIn K (.ref f15) = true)
    {od16 an16 : Option Addr} {sl16 : Array (Option Value)} {oc16 kV16 dc16 pm16 cd16 ct16 : Value} (a16 : PySem.W.nsIn K mainGlobals "_law_keeps" = some (some (.ref f16))) (l16 : K.lookup f16 = some ⟨oc16, od16, .func (PySem.W.fnOf "_law_keeps" "_law_keeps" (defArgs s_l_keeps) (defBody s_l_keeps) (defScope s_l_keeps) .none kV16 dc16 pm16 an16 cd16 ct16), sl16⟩) (c16 : PySem.W.codeIn K cd16 "_law_keeps" = true) (k16 : PySem.W.keepIn K (.ref f16) = true)
    {od17 an17 : Option Addr} {sl17 : Array (Option Value)} {oc17 kV17 dc17 pm17 cd17 ct17 : Value} (a17 : PySem.W.nsIn K mainGlobals "_law_worded" = some (some (.ref f17))) (l17 : K.lookup f17 = some ⟨oc17, od17, .func (PySem.W.fnOf "_law_worded" "_law_worded" (defArgs s_l_worded) (defBody s_l_worded) (defScope s_l_worded) .none kV17 dc17 pm17 an17 cd17 ct17), sl17⟩) (c17 : PySem.W.codeIn K cd17 "_law_worded" = true) (k17 : PySem.W.keepIn K (.ref f17) = true)
    {od18 an18 : Option Addr} {sl18 : Array (Option Value)} {oc18 kV18 dc18 pm18 cd18 ct18 : Value} (a18 : PySem.W.nsIn K mainGlobals "_law_joined" = some (some (.ref f18))) (l18 : K.lookup f18 = some ⟨oc18, od18, .func (PySem.W.fnOf "_law_joined" "_law_joined" (defArgs s_l_joined) (defBody s_l_joined) (defScope s_l_joined) .none kV18 dc18 pm18 an18 cd18 ct18), sl18⟩) (c18 : PySem.W.codeIn K cd18 "_law_joined" = true) (k18 : PySem.W.keepIn K (.ref f18) = true)
    {od19 an19 : Option Addr} {sl19 : Array (Option Value)} {oc19 kV19 dc19 pm19 cd19 ct19 : Value} (a19 : PySem.W.nsIn K mainGlobals "_law_paths" = some (some (.ref f19))) (l19 : K.lookup f19 = some ⟨oc19, od19, .func (PySem.W.fnOf "_law_paths" "_law_paths" (defArgs s_l_paths) (defBody s_l_paths) (defScope s_l_paths) .none kV19 dc19 pm19 an19 cd19 ct19), sl19⟩) (c19 : PySem.W.codeIn K cd19 "_law_paths" = true) (k19 : PySem.W.keepIn K (.ref f19) = true)
    {od20 an20 : Option Addr} {sl20 : Array (Option Value)} {oc20 kV20 dc20 pm20 cd20 ct20 : Value} (a20 : PySem.W.nsIn K mainGlobals "_law_refused" = some (some (.ref f20))) (l20 : K.lookup f20 = some ⟨oc20, od20, .func (PySem.W.fnOf "_law_refused" "_law_refused" (defArgs s_l_refused) (defBody s_l_refused) (defScope s_l_refused) .none kV20 dc20 pm20 an20 cd20 ct20), sl20⟩) (c20 : PySem.W.codeIn K cd20 "_law_refused" = true) (k20 : PySem.W.keepIn K (.ref f20) = true)
    {od21 an21 : Option Addr} {sl21 : Array (Option Value)} {oc21 kV21 dc21 pm21 cd21 ct21 : Value} (a21 : PySem.W.nsIn K mainGlobals "law" = some (some (.ref f21))) (l21 : K.lookup f21 = some ⟨oc21, od21, .func (PySem.W.fnOf "law" "law" (defArgs s_law) (defBody s_law) (defScope s_law) .none kV21 dc21 pm21 an21 cd21 ct21), sl21⟩) (c21 : PySem.W.codeIn K cd21 "law" = true) (k21 : PySem.W.keepIn K (.ref f21) = true)
    (z_abs : PySem.W.nsIn K mainGlobals "abs" = some none)
    (z_enumerate : PySem.W.nsIn K mainGlobals "enumerate" = some none)
    (z_int : PySem.W.nsIn K mainGlobals "int" = some none)
    (z_isinstance : PySem.W.nsIn K mainGlobals "isinstance" = some none)
    (z_len : PySem.W.nsIn K mainGlobals "len" = some none)
    (z_list : PySem.W.nsIn K mainGlobals "list" = some none)
    (z_min : PySem.W.nsIn K mainGlobals "min" = some none)
    (z_range : PySem.W.nsIn K mainGlobals "range" = some none)
    (z_tuple : PySem.W.nsIn K mainGlobals "tuple" = some none)
    (z_zip : PySem.W.nsIn K mainGlobals "zip" = some none)
    {Cc R fI : Addr} {nm q : Str} {N : Addr} {bs : List Value} {sn : List Str} {sub : List Value} {ab : Bool} {col : Option Bool} {dd : Option Addr} {m0 m1 m2 m3 m5 : Option Value} {odI anI : Option Addr} {slI : Array (Option Value)} {ocI dcI pmI cdI ctI : Value}
    (aC : PySem.W.nsIn K mainGlobals "NoKeep" = some (some (.ref Cc)))
    (xL : K.lookup Cc = some (excClassObj nm q Cc N bs [.ref R, .type "ValueError", .type "Exception", .type "BaseException", .type "object"] true sn sub ab col dd m0 m1 m2 m3 m5 "ValueError.__new__"))
    (aR : PySem.W.nsIn K mainGlobals "RestsError" = some (some (.ref R)))
    (sa : PySem.W.findIn K (.ref Cc) "__setattr__" = some (some (.builtin "object.__setattr__")))
    (ga : PySem.W.findIn K (.ref Cc) "__getattribute__" = some (some (.builtin "BaseException.__getattribute__")))
    (gg : PySem.W.findIn K (.ref Cc) "__getattr__" = some none)
    (nb : PySem.W.findIn K (.ref Cc) "path" = some none)
    (aI : PySem.W.findIn K (.ref Cc) "__init__" = some (some (.ref fI)))
    (tI : PySem.W.typeIn K (.ref fI) = some (.type "function"))
    (lI : K.lookup fI = some ⟨ocI, odI, .func (PySem.W.fnOf "__init__" "NoKeep.__init__" (PySem.LowX.iA ⟨6, 17, 6, 21⟩ ⟨6, 23, 6, 27⟩) (PySem.LowX.iB ⟨7, 8, 7, 12⟩ ⟨7, 8, 7, 17⟩ ⟨7, 20, 7, 24⟩ ⟨7, 8, 7, 24⟩) PySem.LowX.iS .none .none dcI pmI anI cdI ctI), slI⟩)
    (cI : PySem.W.codeIn K cdI "NoKeep.__init__" = true)
    (kC : PySem.W.keepIn K (.ref Cc) = true)
    (eC : PySem.W.subIn K (.ref Cc) (.type "BaseException") = some true)
    (tC : PySem.W.typeIn K (.ref Cc) = some (.type "type"))
    (hC : PySem.W.hasDictIn K Cc = true)
    (sC : PySem.W.subIn K (.ref Cc) (.ref Cc) = some true)
    (eR : PySem.W.subIn K (.ref R) (.type "BaseException") = some true)
    (tR : PySem.W.typeIn K (.ref R) = some (.type "type"))
    (hR : PySem.W.hasDictIn K R = true)
    (sR : PySem.W.subIn K (.ref Cc) (.ref R) = some true)
    : ∃ fd : FuncData, (∀ (s : Shared) (v : Value), BindsTo s fd ⟨[v], []⟩ [("_law_script", v)]) ∧ ∀ base : Heap, K.In base → base.Ns mainGlobals mg → LawAt l.prog w K mg base 17 fa fd ["_law_script"] (spLaw K) := by
  have e := hfa.symm.trans (PySem.W.mg_of X G a21)
  cases e
  have T : Txt mg := ⟨PySem.W.mg_none_of X G z_abs, PySem.W.mg_none_of X G z_enumerate, PySem.W.mg_none_of X G z_int, PySem.W.mg_none_of X G z_isinstance, PySem.W.mg_none_of X G z_len, PySem.W.mg_none_of X G z_list, PySem.W.mg_none_of X G z_min, PySem.W.mg_none_of X G z_range, PySem.W.mg_none_of X G z_tuple, PySem.W.mg_none_of X G z_zip⟩
  have D_mix := at_mk (st := s_l_mix) (ps := ["_law_number", "_law_turn"]) X G a0 l0 c0 k0 fun _ _ _ _ _ _ us hl => match us, hl with | [_, _], _ => rfl
  have D_hand := at_mk (st := s_l_hand) (ps := ["_law_script"]) X G a1 l1 c1 k1 fun _ _ _ _ _ _ us hl => match us, hl with | [_], _ => rfl
  have D_draw := at_mk (st := s_l_draw) (ps := ["_law_hand_here", "_law_many"]) X G a2 l2 c2 k2 fun _ _ _ _ _ _ us hl => match us, hl with | [_, _], _ => rfl
  have D_pick := at_mk (st := s_l_pick) (ps := ["_law_hand_here", "_law_things"]) X G a3 l3 c3 k3 fun _ _ _ _ _ _ us hl => match us, hl with | [_, _], _ => rfl
  have D_leaf := at_mk (st := s_l_any_leaf) (ps := ["_law_hand_here", "_law_names"]) X G a4 l4 c4 k4 fun _ _ _ _ _ _ us hl => match us, hl with | [_, _], _ => rfl
  have D_names := at_mk (st := s_l_any_names) (ps := ["_law_hand_here", "_law_names", "_law_most"]) X G a5 l5 c5 k5 fun _ _ _ _ _ _ us hl => match us, hl with | [_, _, _], _ => rfl
  have D_anyf := at_mk (st := s_l_any_fun) (ps := ["_law_hand_here", "_law_deep", "_law_names", "_law_room", "_law_most"]) X G a6 l6 c6 k6 fun _ _ _ _ _ _ us hl => match us, hl with | [_, _, _, _, _], _ => rfl
  have D_any := at_mk (st := s_l_any) (ps := ["_law_hand_here", "_law_deep", "_law_names", "_law_room"]) X G a7 l7 c7 k7 fun _ _ _ _ _ _ us hl => match us, hl with | [_, _, _, _], _ => rfl
  have D_parts := at_mk (st := s_p_parts_of) (ps := ["tree"]) X G a8 l8 c8 k8 fun _ _ _ _ _ _ us hl => match us, hl with | [_], _ => rfl
  have D_wparts := at_mk (st := s_p_with_parts) (ps := ["tree", "parts"]) X G a9 l9 c9 k9 fun _ _ _ _ _ _ us hl => match us, hl with | [_, _], _ => rfl
  have D_tat := at_mk (st := s_p_tree_at) (ps := ["tree", "path"]) X G a10 l10 c10 k10 fun _ _ _ _ _ _ us hl => match us, hl with | [_, _], _ => rfl
  have D_twith := at_mk (st := s_p_tree_with) (ps := ["tree", "path", "other"]) X G a11 l11 c11 k11 fun _ _ _ _ _ _ us hl => match us, hl with | [_, _, _], _ => rfl
  have D_tpaths := at_mk (st := s_p_tree_paths) (ps := ["tree"]) X G a12 l12 c12 k12 fun _ _ _ _ _ _ us hl => match us, hl with | [_], _ => rfl
  have D_kpaths := at_mk (st := s_p_keep_paths) (ps := ["tree"]) X G a13 l13 c13 k13 fun _ _ _ _ _ _ us hl => match us, hl with | [_], _ => rfl
  have D_once := at_mk (st := s_p_with_once) (ps := ["tree", "paths"]) X G a14 l14 c14 k14 fun _ _ _ _ _ _ us hl => match us, hl with | [_, _], _ => rfl
  have D_lparts := at_mk (st := s_l_parts) (ps := ["_law_tree"]) X G a15 l15 c15 k15 fun _ _ _ _ _ _ us hl => match us, hl with | [_], _ => rfl
  have D_keeps := at_mk (st := s_l_keeps) (ps := ["_law_tree", "_law_path"]) X G a16 l16 c16 k16 fun _ _ _ _ _ _ us hl => match us, hl with | [_, _], _ => rfl
  have D_worded := at_mk (st := s_l_worded) (ps := ["_law_tree", "_law_path", "_law_paths_here", "_law_word"]) X G a17 l17 c17 k17 fun _ _ _ _ _ _ us hl => match us, hl with | [_, _, _, _], _ => rfl
  have D_joined := at_mk (st := s_l_joined) (ps := ["_law_tree", "_law_inner"]) X G a18 l18 c18 k18 fun _ _ _ _ _ _ us hl => match us, hl with | [_, _], _ => rfl
  have D_lpaths := at_mk (st := s_l_paths) (ps := ["_law_tree", "_law_path"]) X G a19 l19 c19 k19 fun _ _ _ _ _ _ us hl => match us, hl with | [_, _], _ => rfl
  have D_refused := at_mk (st := s_l_refused) (ps := ["_law_tree", "_law_paths_here"]) X G a20 l20 c20 k20 fun _ _ _ _ _ _ us hl => match us, hl with | [_, _], _ => rfl
  refine ⟨PySem.W.fnOf "law" "law" (defArgs s_law) (defBody s_law) (defScope s_law) .none kV21 dc21 pm21 an21 cd21 ct21, fun s v => .of_eq rfl, fun base _ _ => ?_⟩
  have low : PySem.LowX.LowTxt K mg Cc fI :=
    { gC := PySem.W.mg_of X G aC, cls := ⟨nm, q, N, bs, _, sn, sub, ab, col, dd, m0, m1, m2, m3, m5, xL, (show PySem.HandSPX.refsVE [.type "ValueError", .type "Exception", .type "BaseException", .type "object"] = true by decide +kernel)⟩, sa := sa, ga := ga, gg := gg, noN := nb, iC := aI, tC := tI, kC := kC, exC := eC, tyC := tC, hdC := hC, te := PySem.W.exm_ref eC hC tC sC,
      fn := ⟨_, _, _, _, _, _, _, _, _, _, _, _, _, _, lI, cI⟩ }
  have er : Errs K mg Cc R := ⟨PySem.W.mg_of X G aR, PySem.W.exm_ref eR hR tR sR, ⟨ga, gg, eC, hC⟩, nb⟩
  have c1 := ok_mix (P := l.prog) (w := w) (base := base) T D_mix
  have c2 := ok_draw T c1 D_draw
  have c3 := ok_pick T c2 D_pick
  have c4 := ok_any_leaf c2 c3 D_leaf
  have c5 := ok_any_names T c2 D_names
  have c6 := ok_any T c2 c3 c4 c5 D_anyf D_any 4
  have p1 := ok_parts_of (P := l.prog) (w := w) (base := base) T D_parts
  have p2 := ok_with_parts (P := l.prog) (w := w) (base := base) T D_wparts
  have p3 := ok_tree_at T p1 D_tat
  have p4 := ok_tree_with T p1 p2 D_twith 12
  have p5 := ok_tree_paths T p1 D_tpaths 12
  have p6 := ok_keep_paths T p3 p5 D_kpaths
  have p7 := ok_with_once T low p3 p4 D_once
  have q1 := ok_l_parts (P := l.prog) (w := w) (base := base) T D_lparts
  have q2 := ok_joined (P := l.prog) (w := w) (base := base) T D_joined
  exact ok_law T ⟨ok_hand T D_hand, c2, c6, ok_l_keeps T q1 D_keeps 12, p6, ok_worded T q1 q2 D_worded 12, ok_l_paths T q1 D_lpaths 12, p7, ok_refused T low er p7 D_refused⟩ (fun_mk (st := s_law) l21 c21 k21)
theorem walk {l : PySem.W.OpenLaw} {q : Program} {loose : List Str} {XP : (Str → Option Value) → Heap → Prop} {YP : World → Heap → Prop} {d : DefRec} {K : Params → PySem.W.Frag} (hn : l.most = some 63) (hdf : d.params.defaults = [])
    (hY : ∀ (w : World) (h : Heap), YP w h → (K w.params).In h)
    (F : ∀ (w : World) (mg : Str → Option Value) (fa : Addr) (h : Heap), (K w.params).In h → h.Ns mainGlobals mg → mg d.name = some (.ref fa) →
      ∃ fd : FuncData, (∀ (s : Shared) (u : Value), BindsTo s fd ⟨[u], []⟩ [("_law_script", u)]) ∧ ∀ base : Heap, (K w.params).In base → base.Ns mainGlobals mg → LawAt l.prog w (K w.params) mg base 17 fa fd ["_law_script"] (spLaw (K w.params))) :
    PySem.W.WalkO q loose XP YP l.row.toRowW d [] (fun f vs => PySem.call f vs) :=
  walk_law (n := 63) (k := 17) (x := "_law_script") (sp := fun K => spLaw K) hn (by decide) hdf ⟨rfl, by decide, by decide⟩ hY F fun _ _ a ns hl _ hS => ⟨a, ns, rfl, hS, hl, fun _ => rfl⟩
end K26

open PySem PySem.W PyProof.Rows in
set_option maxRecDepth 100000 in
set_option maxHeartbeats 0 in
theorem PySem.Challenge.cw_goonagain_k26_once_in_the_place_of_keep_holds : PySem.Challenge.rw_goonagain_k26_once_in_the_place_of_keep.Holds := by
  w_on; o_law; k_head; (case hw => w_witness2)
  k_fill
  refine K26.walk (l := PySem.Challenge.rw_goonagain_k26_once_in_the_place_of_keep) rfl rfl (fun w h Y => PySem.W.kIn_of Y) ?F
  case F =>
    intro w mg fa h KX G hmg
    refine' K26.all_mk KX G hmg ?a0 ?l0 ?c0 ?k0 ?a1 ?l1 ?c1 ?k1 ?a2 ?l2 ?c2 ?k2 ?a3 ?l3 ?c3 ?k3 ?a4 ?l4 ?c4 ?k4 ?a5 ?l5 ?c5 ?k5 ?a6 ?l6 ?c6 ?k6 ?a7 ?l7 ?c7 ?k7 ?a8 ?l8 ?c8 ?k8 ?a9 ?l9 ?c9 ?k9 ?a10 ?l10 ?c10 ?k10 ?a11 ?l11 ?c11 ?k11 ?a12 ?l12 ?c12 ?k12 ?a13 ?l13 ?c13 ?k13 ?a14 ?l14 ?c14 ?k14 ?a15 ?l15 ?c15 ?k15 ?a16 ?l16 ?c16 ?k16 ?a17 ?l17 ?c17 ?k17 ?a18 ?l18 ?c18 ?k18 ?a19 ?l19 ?c19 ?k19 ?a20 ?l20 ?c20 ?k20 ?a21 ?l21 ?c21 ?k21 ?z_abs ?z_enumerate ?z_int ?z_isinstance ?z_len ?z_list ?z_min ?z_range ?z_tuple ?z_zip ?aC ?xL ?aR ?sa ?ga ?gg ?nb ?aI ?tI ?lI ?cI ?kC ?eC ?tC ?hC ?sC ?eR ?tR ?hR ?sR
    (case a0 => k_is)
    (case l0 => k_is)
    (case c0 => k_is)
    (case k0 => k_is)
    (case a1 => k_is)
    (case l1 => k_is)
    (case c1 => k_is)
    (case k1 => k_is)
    (case a2 => k_is)
    (case l2 => k_is)
    (case c2 => k_is)
    (case k2 => k_is)
    (case a3 => k_is)
    (case l3 => k_is)
    (case c3 => k_is)
    (case k3 => k_is)
    (case a4 => k_is)
    (case l4 => k_is)
    (case c4 => k_is)
    (case k4 => k_is)
    (case a5 => k_is)
    (case l5 => k_is)
    (case c5 => k_is)
    (case k5 => k_is)
    (case a6 => k_is)
    (case l6 => k_is)
    (case c6 => k_is)
    (case k6 => k_is)
    (case a7 => k_is)
    (case l7 => k_is)
    (case c7 => k_is)
    (case k7 => k_is)
    (case a8 => k_is)
    (case l8 => k_is)
    (case c8 => k_is)
    (case k8 => k_is)
    (case a9 => k_is)
    (case l9 => k_is)
    (case c9 => k_is)
    (case k9 => k_is)
    (case a10 => k_is)
    (case l10 => k_is)
    (case c10 => k_is)
    (case k10 => k_is)
    (case a11 => k_is)
    (case l11 => k_is)
    (case c11 => k_is)
    (case k11 => k_is)
    (case a12 => k_is)
    (case l12 => k_is)
    (case c12 => k_is)
    (case k12 => k_is)
    (case a13 => k_is)
    (case l13 => k_is)
    (case c13 => k_is)
    (case k13 => k_is)
    (case a14 => k_is)
    (case l14 => k_is)
    (case c14 => k_is)
    (case k14 => k_is)
    (case a15 => k_is)
    (case l15 => k_is)
    (case c15 => k_is)
    (case k15 => k_is)
    (case a16 => k_is)
    (case l16 => k_is)
    (case c16 => k_is)
    (case k16 => k_is)
    (case a17 => k_is)
    (case l17 => k_is)
    (case c17 => k_is)
    (case k17 => k_is)
    (case a18 => k_is)
    (case l18 => k_is)
    (case c18 => k_is)
    (case k18 => k_is)
    (case a19 => k_is)
    (case l19 => k_is)
    (case c19 => k_is)
    (case k19 => k_is)
    (case a20 => k_is)
    (case l20 => k_is)
    (case c20 => k_is)
    (case k20 => k_is)
    (case a21 => k_is)
    (case l21 => k_is)
    (case c21 => k_is)
    (case k21 => k_is)
    (case z_abs => k_is)
    (case z_enumerate => k_is)
    (case z_int => k_is)
    (case z_isinstance => k_is)
    (case z_len => k_is)
    (case z_list => k_is)
    (case z_min => k_is)
    (case z_range => k_is)
    (case z_tuple => k_is)
    (case z_zip => k_is)
    (case aC => k_is)
    (case xL => k_is)
    (case aR => k_is)
    (case sa => k_is)
    (case ga => k_is)
    (case gg => k_is)
    (case nb => k_is)
    (case aI => k_is)
    (case tI => k_is)
    (case lI => k_is)
    (case cI => k_is)
    (case kC => k_is)
    (case eC => k_is)
    (case tC => k_is)
    (case hC => k_is)
    (case sC => k_is)
    (case eR => k_is)
    (case tR => k_is)
    (case hR => k_is)
    (case sR => k_is)
