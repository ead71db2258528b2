import PyProof.Rows.All
import Wide.All
import OpenK.AllK
import Wide.FinOn
import HandS.ForMost
import HandS.Codes
import HandS.Wide
import HandS.TupAny
import HandS.Conv
import HandS.RevRange
import HandS.SortInts
import HandS.RaiseMore
import HandS.Style
import HandS.Walk
import HandS.Zip
import HandS.More
import KE.GoesEnum
import KE.GoesMore
import KE.KDictList
import KE.KDictSum
import HandS.IsInst
import HandS.Deep
import HandS.Exc
import HandS.ExcOwn
import HandS.ExcIs
import HandS.ExcField
import HandS.WordsExc
import HandS.TupMul
import PyProof.Rows.SortShellAny
import HandS.ExcInit
import HandS.ExcValue
import HandS.Flow
import HandS.Nested
import HandS.Words
import HandS.OwnEq
import HandS.TupLen
import HandS.Strs
import KE.GoesZip
import HandS.TupLe
import HandS.WordsDict
import HandS.EndTab
import HandS.DictComp
import KE.KNestM
import PySem.Challenge.RW_goonagain_k06_what_a_standing_reaches
set_option Elab.async false
set_option maxRecDepth 100000
set_option maxHeartbeats 4000000
/-! common part: what a call keeps, data, repr, the hand of draws -/
namespace Cm
open PySem L2

/-! ### what is kept but at the lists M -/
structure Kp (M : Addr → Prop) (H H' : Hp) : Prop where
  st : ∀ a o, ¬ M a → H a = some o → H' a = some o
  l1 : ∀ a, M a → ∃ xs, H a = some (.lst xs)
  l2 : ∀ a, M a → ∃ xs, H' a = some (.lst xs)
theorem Kp.trans {M : Addr → Prop} {H H1 H2 : Hp} (a : Kp M H H1) (b : Kp M H1 H2) : Kp M H H2 :=
  ⟨fun x o n e => b.st x o n (a.st x o n e), a.l1, b.l2⟩
theorem Kp.of_same {M : Addr → Prop} {H H' : Hp} (h : ∀ a, M a → ∃ xs, H a = some (.lst xs)) (s : Same H H') : Kp M H H' :=
  ⟨fun x o _ e => s x o e, h, fun a m => let ⟨xs, e⟩ := h a m; ⟨xs, s a _ e⟩⟩
theorem Kp.refl {M : Addr → Prop} {H : Hp} (h : ∀ a, M a → ∃ xs, H a = some (.lst xs)) : Kp M H H := .of_same h (Same.refl H)
theorem same_new {H : Hp} {p : Addr} {o : HO} (h : H p = Option.none) : Same H (upd H p o) := fun b u e => by
  rw [upd_ne (ne_of_none e h)]
  exact e
theorem Kp.new {M : Addr → Prop} {H : Hp} (h : ∀ a, M a → ∃ xs, H a = some (.lst xs)) {p : Addr} {o : HO} (hp : H p = Option.none) : Kp M H (upd H p o) :=
  .of_same h (same_new hp)
theorem Kp.put {M : Addr → Prop} {H : Hp} (h : ∀ a, M a → ∃ xs, H a = some (.lst xs)) {p : Addr} {ys : List V} (hp : M p) : Kp M H (upd H p (.lst ys)) :=
  ⟨fun x o n e => by
    rw [upd_ne (show x ≠ p by rintro rfl; exact n hp)]
    exact e, h, fun a m => by
    by_cases q : a = p
    · subst q
      exact ⟨ys, upd_same⟩
    · rw [upd_ne q]
      exact h a m⟩
theorem Kp.wider {M N : Addr → Prop} {H H' : Hp} (k : Kp M H H') (h : ∀ a, M a → N a) (l : ∀ a, N a → ∃ xs, H a = some (.lst xs)) : Kp N H H' :=
  ⟨fun x o n e => k.st x o (fun m => n (h x m)) e, l, fun a m => by
    by_cases q : M a
    · exact k.l2 a q
    · obtain ⟨xs, e⟩ := l a m
      exact ⟨xs, k.st a _ q e⟩⟩
theorem Kp.tup {M : Addr → Prop} {K : PySem.W.Frag} {H H' : Hp} {a : Addr} {xs : List V} (k : Kp M H H') (h : SqT K H a xs) : SqT K H' a xs := by
  have no : ∀ o, H a = some o → (∀ ys, o ≠ .lst ys) → ¬ M a := fun o e n m => by
    obtain ⟨ys, e2⟩ := k.l1 a m
    rw [e] at e2
    exact n ys (Option.some.inj e2)
  rcases h with (h | ⟨o, h⟩) | h
  · exact .inl (.inl (k.st _ _ (no _ h fun _ z => nomatch z) h))
  · exact .inl (.inr ⟨o, k.st _ _ (no _ h fun _ z => nomatch z) h⟩)
  · exact .inr h
theorem Kp.free {M : Addr → Prop} {H H' : Hp} {p : Addr} (k : Kp M H H') (h : H' p = Option.none) : H p = Option.none := by
  cases e : H p with
  | none => rfl
  | some o =>
    by_cases q : M p
    · obtain ⟨xs, e2⟩ := k.l2 p q
      rw [h] at e2
      cases e2
    · have := k.st p o q e
      rw [h] at this
      cases this
theorem Kp.m_of {M : Addr → Prop} {H H' : Hp} {p : Addr} (k : Kp M H H') (h : H p = Option.none) : ¬ M p := fun m => by
  obtain ⟨xs, e⟩ := k.l1 p m
  rw [h] at e
  cases e

/-! ### data -/
mutual
/-- no list, no dict in it -/
def flatD : PyData → Bool
  | .list _ => false
  | .dict _ => false
  | .tuple xs => flatDs xs
  | _ => true
def flatDs : List PyData → Bool
  | [] => true
  | x :: xs => flatD x && flatDs xs
end
mutual
theorem dp_keep {K : PySem.W.Frag} {H H' : Hp} (k : ∀ a xs, SqT K H a xs → SqT K H' a xs) : ∀ (d : PyData) (v : V), flatD d = true → Dp K H v d → Dp K H' v d
  | .none, _, _, h => by cases h; exact .non
  | .bool _, _, _, h => by cases h; exact .bl _
  | .int _, _, _, h => by cases h; exact .int _
  | .str _, _, _, h => by cases h; exact .str _
  | .list _, _, f, _ => by simp [flatD] at f
  | .dict _, _, f, _ => by simp [flatD] at f
  | .tuple ds, _, f, h => by
    cases h with
    | tup hs ha => exact .tup (k _ _ hs) (dps_keep k ds _ (by simpa [flatD] using f) ha)
theorem dps_keep {K : PySem.W.Frag} {H H' : Hp} (k : ∀ a xs, SqT K H a xs → SqT K H' a xs) : ∀ (ds : List PyData) (vs : List V), flatDs ds = true → DpAll K H vs ds → DpAll K H' vs ds
  | [], _, _, h => by cases h; exact .nil
  | d :: ds, _, f, h => by
    cases h with
    | cons h1 h2 =>
      have f' : flatD d = true ∧ flatDs ds = true := by simpa [flatDs] using f
      exact .cons (dp_keep k d _ f'.1 h1) (dps_keep k ds _ f'.2 h2)
end
mutual
/-- all lists in it are kept as well -/
theorem dp_same {K : PySem.W.Frag} {H H' : Hp} (s : Same H H') : ∀ (d : PyData) (v : V), Dp K H v d → Dp K H' v d
  | .none, _, h => by cases h; exact .non
  | .bool _, _, h => by cases h; exact .bl _
  | .int _, _, h => by cases h; exact .int _
  | .str _, _, h => by cases h; exact .str _
  | .dict _, _, h => by cases h
  | .list ds, _, h => by
    cases h with
    | lst hs ha => exact .lst (s.seq hs) (dps_same s ds _ ha)
  | .tuple ds, _, h => by
    cases h with
    | tup hs ha =>
      refine .tup ?_ (dps_same s ds _ ha)
      rcases hs with (h | ⟨o, h⟩) | h
      · exact .inl (.inl (s _ _ h))
      · exact .inl (.inr ⟨o, s _ _ h⟩)
      · exact .inr h
theorem dps_same {K : PySem.W.Frag} {H H' : Hp} (s : Same H H') : ∀ (ds : List PyData) (vs : List V), DpAll K H vs ds → DpAll K H' vs ds
  | [], _, h => by cases h; exact .nil
  | d :: ds, _, h => by
    cases h with
    | cons h1 h2 => exact .cons (dp_same s d _ h1) (dps_same s ds _ h2)
end
theorem DpAll.len {K : PySem.W.Frag} {H : Hp} : ∀ {vs : List V} {ds : List PyData}, DpAll K H vs ds → vs.length = ds.length
  | _, _, .nil => rfl
  | _, _, .cons _ h => congrArg (· + 1) (DpAll.len h)
theorem DpAll.at {K : PySem.W.Frag} {H : Hp} : ∀ {vs : List V} {ds : List PyData} {i : Nat} {d : PyData}, DpAll K H vs ds → ds[i]? = some d → ∃ v, vs[i]? = some v ∧ Dp K H v d
  | _, _, 0, d, .cons h _, e => by
    simp at e
    subst e
    exact ⟨_, rfl, h⟩
  | _, _, i + 1, d, .cons _ h, e => by
    obtain ⟨v, h1, h2⟩ := DpAll.at (i := i) (d := d) h (by simpa using e)
    exact ⟨v, by simpa using h1, h2⟩
theorem DpAll.atV {K : PySem.W.Frag} {H : Hp} : ∀ {vs : List V} {ds : List PyData} {i : Nat} {v : V}, DpAll K H vs ds → vs[i]? = some v → ∃ d, ds[i]? = some d ∧ Dp K H v d
  | _, _, 0, d, .cons h _, e => by
    simp at e
    subst e
    exact ⟨_, rfl, h⟩
  | _, _, i + 1, d, .cons _ h, e => by
    obtain ⟨v, h1, h2⟩ := DpAll.atV (i := i) (v := d) h (by simpa using e)
    exact ⟨v, by simpa using h1, h2⟩
theorem DpAll.snoc {K : PySem.W.Frag} {H : Hp} {v : V} {d : PyData} (h : Dp K H v d) : ∀ {vs : List V} {ds : List PyData}, DpAll K H vs ds → DpAll K H (vs ++ [v]) (ds ++ [d])
  | _, _, .nil => .cons h .nil
  | _, _, .cons a b => .cons a (DpAll.snoc h b)
theorem DpAll.app {K : PySem.W.Frag} {H : Hp} : ∀ {vs ws : List V} {ds es : List PyData}, DpAll K H vs ds → DpAll K H ws es → DpAll K H (vs ++ ws) (ds ++ es)
  | _, _, _, _, .nil, h => h
  | _, _, _, _, .cons a b, h => .cons a (DpAll.app b h)
theorem DpAll.take {K : PySem.W.Frag} {H : Hp} (n : Nat) : ∀ {vs : List V} {ds : List PyData}, DpAll K H vs ds → DpAll K H (vs.take n) (ds.take n) := by
  induction n with
  | zero => intro vs ds _; exact .nil
  | succ n ih =>
    intro vs ds h
    cases h with
    | nil => exact .nil
    | cons a b => exact .cons a (ih b)
theorem DpAll.drop {K : PySem.W.Frag} {H : Hp} (n : Nat) : ∀ {vs : List V} {ds : List PyData}, DpAll K H vs ds → DpAll K H (vs.drop n) (ds.drop n) := by
  induction n with
  | zero => intro vs ds h; exact h
  | succ n ih =>
    intro vs ds h
    cases h with
    | nil => exact .nil
    | cons a b => exact ih b
theorem DpAll.rev {K : PySem.W.Frag} {H : Hp} : ∀ {vs : List V} {ds : List PyData}, DpAll K H vs ds → DpAll K H vs.reverse ds.reverse
  | _, _, .nil => .nil
  | _, _, .cons a b => by
    rw [List.reverse_cons, List.reverse_cons]
    exact DpAll.snoc a (DpAll.rev b)
theorem dpAll_ints {K : PySem.W.Frag} {H : Hp} : ∀ ns : List Int, DpAll K H (ns.map V.int) (ns.map PyData.int)
  | [] => .nil
  | n :: ns => .cons (.int n) (dpAll_ints ns)

/-! ### repr of data -/
/-- what repr sees at a value: data of lists and tuples, or a dict of int keys whose values are data without lists -/
def Rp (K : PySem.W.Frag) (H : Hp) (x : V) (d : PyData) : Prop :=
  Dp K H x d ∨ ∃ (a : Addr) (kvs : List (Key × V)) (es : List (Int × PyData)), x = .ref a ∧ H a = some (.dK kvs) ∧ kvs.map (·.1) = es.map (fun e => Sum.inl e.1) ∧
    DpAll K H (kvs.map (·.2)) (es.map (·.2)) ∧ flatDs (es.map (·.2)) = true ∧ d = .dict (es.map fun e => (.int e.1, e.2))
mutual
/-- short leaves -/
def okD : PyData → Bool
  | .int i => decide (i.natAbs < 10 ^ 12)
  | .str x => PyData.leavesShort 13 (.str x)
  | .list xs => okDs xs
  | .tuple xs => okDs xs
  | .dict kvs => okDk kvs
  | _ => true
def okDs : List PyData → Bool
  | [] => true
  | x :: xs => okD x && okDs xs
def okDk : List (PyData × PyData) → Bool
  | [] => true
  | (k, v) :: r => okD k && okD v && okDk r
end
mutual
theorem okD_show : ∀ d : PyData, okD d = true → d.showable = true ∧ d.leavesShort 13 = true
  | .none, _ => by constructor <;> first | rfl | decide +kernel | simp [PyData.showable, PyData.leavesShort]
  | .bool b, _ => by cases b <;> constructor <;> first | rfl | decide +kernel
  | .int i, h => by
    have h' : i.natAbs < 10 ^ 12 := by simpa [okD] using h
    refine ⟨?_, ?_⟩
    · have : i.natAbs.log2 < 1920 := by
        by_cases z : i.natAbs = 0
        · rw [z]; decide
        · refine Nat.lt_of_lt_of_le ((Nat.log2_lt z).mpr (show i.natAbs < 2 ^ 64 from Nat.lt_of_lt_of_le h' (by decide))) (by decide)
      simpa [PyData.showable] using this
    · have := PyData.shown_int_le h'
      simpa [PyData.leavesShort] using this
  | .str x, h => by
    exact ⟨by simp [PyData.showable], by simpa only [okD] using h⟩
  | .list xs, h => by
    have := okDs_show xs (by simpa [okD] using h)
    exact ⟨by simpa [PyData.showable] using this.1, by simpa [PyData.leavesShort] using this.2⟩
  | .tuple xs, h => by
    have := okDs_show xs (by simpa [okD] using h)
    exact ⟨by simpa [PyData.showable] using this.1, by simpa [PyData.leavesShort] using this.2⟩
  | .dict kvs, h => by
    have := okDk_show kvs (by simpa [okD] using h)
    exact ⟨by simpa [PyData.showable] using this.1, by simpa [PyData.leavesShort] using this.2⟩
theorem okDs_show : ∀ xs : List PyData, okDs xs = true → PyData.showableAll xs = true ∧ PyData.leavesShortAll 13 xs = true
  | [], _ => ⟨by simp [PyData.showableAll], by simp [PyData.leavesShortAll]⟩
  | x :: xs, h => by
    have h' : okD x = true ∧ okDs xs = true := by simpa [okDs] using h
    have a := okD_show x h'.1
    have b := okDs_show xs h'.2
    exact ⟨by simp [PyData.showableAll, a.1, b.1], by simp [PyData.leavesShortAll, a.2, b.2]⟩
theorem okDk_show : ∀ xs : List (PyData × PyData), okDk xs = true → PyData.showableKv xs = true ∧ PyData.leavesShortKv 13 xs = true
  | [], _ => ⟨by simp [PyData.showableKv], by simp [PyData.leavesShortKv]⟩
  | (k, v) :: xs, h => by
    have h' : (okD k = true ∧ okD v = true) ∧ okDk xs = true := by simpa [okDk] using h
    have a := okD_show k h'.1.1
    have b := okD_show v h'.1.2
    have c := okDk_show xs h'.2
    exact ⟨by simp [PyData.showableKv, a.1, b.1, c.1], by simp [PyData.leavesShortKv, a.2, b.2, c.2]⟩
end
mutual
theorem no_as {h : Heap} : ∀ (d : PyData) (u : Value) (as : List Addr), flatD d = true → Reads h u d as → as = []
  | .none, _, _, _, r => by cases r; rfl
  | .bool _, _, _, _, r => by cases r; rfl
  | .int _, _, _, _, r => by cases r; rfl
  | .str _, _, _, _, r => by cases r; rfl
  | .list _, _, _, f, _ => by simp [flatD] at f
  | .dict _, _, _, f, _ => by simp [flatD] at f
  | .tuple ds, _, _, f, r => by
    cases r with
    | tuple _ _ _ ha => exact no_ass ds _ _ (by simpa [flatD] using f) ha
theorem no_ass {h : Heap} : ∀ (ds : List PyData) (us : List Value) (as : List Addr), flatDs ds = true → ReadsAll h us ds as → as = []
  | [], _, _, _, r => by cases r; rfl
  | d :: ds, _, _, f, r => by
    have f' : flatD d = true ∧ flatDs ds = true := by simpa [flatDs] using f
    cases r with
    | cons r1 r2 => rw [no_as d _ _ f'.1 r1, no_ass ds _ _ f'.2 r2]; rfl
end
mutual
theorem dp_nodict {K : PySem.W.Frag} {H : Hp} : ∀ (d : PyData) (v : V), Dp K H v d → d.hasDict = false
  | .none, _, _ => by simp [PyData.hasDict]
  | .bool _, _, _ => by simp [PyData.hasDict]
  | .int _, _, _ => by simp [PyData.hasDict]
  | .str _, _, _ => by simp [PyData.hasDict]
  | .dict _, _, h => by cases h
  | .list ds, _, h => by
    cases h with
    | lst _ ha => simpa [PyData.hasDict] using dps_nodict ds _ ha
  | .tuple ds, _, h => by
    cases h with
    | tup _ ha => simpa [PyData.hasDict] using dps_nodict ds _ ha
theorem dps_nodict {K : PySem.W.Frag} {H : Hp} : ∀ (ds : List PyData) (vs : List V), DpAll K H vs ds → PyData.hasDictAll ds = false
  | [], _, _ => by simp [PyData.hasDictAll]
  | d :: ds, _, h => by
    cases h with
    | cons h1 h2 => simp [PyData.hasDictAll, dp_nodict d _ h1, dps_nodict ds _ h2]
end
theorem flatDs_ints : ∀ ks : List Int, flatDs (ks.map PyData.int) = true
  | [] => rfl
  | k :: ks => by simp [flatDs, flatD, flatDs_ints ks]
section
variable {X : Cx}
theorem dict_keys {prog : Program} {w : World} {h : Heap} : ∀ (es : List (Int × PyData)) (kvs : List (Key × V)) (l : List DictEntry) (vs : List (Key × Value)), kvs.map (·.1) = es.map (fun e => Sum.inl e.1) → KV kvs vs → Pairs (mixKind prog w) l vs →
    ReadsAll h (l.map (·.key)) (es.map fun e => PyData.int e.1) [] ∧ Vals (kvs.map (·.2)) (l.map (·.val))
  | [], kvs, l, vs, hk, r, p => by
    cases kvs with
    | cons a b => simp at hk
    | nil =>
      cases r
      cases p
      exact ⟨.nil, .nil⟩
  | e :: es, kvs, l, vs, hk, r, p => by
    cases kvs with
    | nil => simp at hk
    | cons a b =>
      simp only [List.map_cons, List.cons.injEq] at hk
      cases r with
      | @cons _ v _ vs' r1 r2 =>
        cases p with
        | @cons en _ l' _ p1 p2 p3 =>
          obtain ⟨q1, q2⟩ := dict_keys es b l' vs' hk.2 r2 p3
          have p1' : keyIs v.1 en.key = true := p1
          rw [← r1.1, hk.1] at p1'
          obtain ⟨t, et⟩ := Value.isInt_shape (k := e.1) (v := en.key) p1'
          refine ⟨?_, .cons ?_ q2⟩
          · rw [List.map_cons, List.map_cons, et]
            exact ReadsAll.cons (as := []) (bs := []) (Reads.int _ _) q1
          · show RelV a.2 en.val
            rw [p2]
            exact r1.2
def rRepr (K : PySem.W.Frag) : List V → Hp → VK → Prop := fun xs H Q => ∃ x d, xs = [x] ∧ Rp K H x d ∧ okD d = true ∧ d.depth ≤ 60 ∧ d.weight ≤ 2 ^ 20 ∧ Q (.str d.shown) H
theorem call_reprD (hg : X.A.guards = some []) (hu : X.A.units + 64 < cLine) : CallR X (.builtin "repr") (rRepr X.K) := by
  intro pins s σ H xs us Q I r h
  obtain ⟨x, d, rfl, hd, ok, hdep, hw, q⟩ := h
  obtain ⟨u, rfl, rx⟩ := vals1 r
  obtain ⟨hsh, hls⟩ := okD_show d ok
  have hsz : d.shown.length ≤ sizeLine := PyData.shown_fits (by decide) (by decide) hls hw
  have fin : ∀ (a : Addr) (as : List Addr), u = .ref a → Reads s.heap u d as → (d.hasDict = true → sysModules ∉ as) → wpAny (model X.prog X.w) X.A (call (.builtin "repr") [u]) (EP X pins σ Q) X.xe s := fun a as e rd no => by
    subst e
    exact repr_of_reads' rd hsh no hg (by omega) (fun _ _ e => e) (fun h' u tk k => ⟨.str _, H, I.kept k, ⟨_, rfl⟩, q⟩) hsz
  rcases hd with hd | ⟨a, kvs, es, rfl, ha, hk, hv, hf, rfl⟩
  · obtain ⟨as, rd⟩ := Dp.reads I d x u hd rx
    cases hd with
    | non => cases rx; exact P.repr_of_none ⟨.str _, H, I.tok _, ⟨_, rfl⟩, q⟩
    | bl b => cases rx; exact P.repr_of_bool ⟨.str _, H, I.tok _, ⟨_, rfl⟩, by cases b <;> exact q⟩
    | int i =>
      obtain ⟨t, rfl⟩ := rx
      exact P.repr_of_int (by simpa [PyData.showable] using hsh) ⟨.str _, H, I.tok _, ⟨_, rfl⟩, by simpa [PyData.shown] using q⟩
    | str z =>
      obtain ⟨t, rfl⟩ := rx
      exact P.repr_of_str ⟨.str _, H, I.tok _, ⟨_, rfl⟩, by simpa [PyData.shown] using q⟩ (by simpa [PyData.shown] using hsz)
    | lst hs ha =>
      have nd := dp_nodict _ _ (Dp.lst hs ha)
      cases rx
      exact fin _ as rfl rd fun z => by rw [nd] at z; cases z
    | tup hs ha =>
      have nd := dp_nodict _ _ (Dp.tup hs ha)
      cases rx
      exact fin _ as rfl rd fun z => by rw [nd] at z; cases z
  · cases rx
    obtain ⟨_, hsys, vs, rv, ob, dl, ep, e1, e2, e3, _, e5, _⟩ := (show kvs.length ≤ sizeLine ∧ (a == sysModules) = false ∧ ∃ vs, KV kvs vs ∧ s.heap.DictOf (mixKind X.prog X.w) a vs from dk_of I.hok ha)
    obtain ⟨q1, q2⟩ := dict_keys es kvs dl.toList vs hk rv e5
    obtain ⟨bs, q3⟩ := Dp.readsAll I _ _ _ hv q2
    obtain rfl := no_ass _ _ _ hf q3
    have rd : Reads s.heap (.ref a) (.dict (es.map fun e => (PyData.int e.1, e.2))) (a :: [] ++ []) :=
      .dict e1 e2.1 e3 (by rw [List.map_map]; exact q1) (by rw [List.map_map]; exact q3)
    exact fin a _ rfl rd fun _ m => by
      have : sysModules = a := by simpa using m
      rw [← this] at hsys
      simp at hsys
end
end Cm

/-! a law's call whose body may ask repr: nothing is under repr there -/
namespace Cm
open PySem L2 PySem.Spec PyProof.Rows
section
variable {P : Program} {w : World} {K : PySem.W.Frag} {mg : Str → Option Value} {base : Heap}
/-- the promise of the law's def, where no repr is under way -/
def LawAt (P : Program) (w : World) (K : PySem.W.Frag) (mg : Str → Option Value) (base : Heap) (k : Nat) (f : Addr) (fd : FuncData) (ps : List Str) (sp : Sp) : Prop :=
  ∀ (A : Around) (outer : List Env) (s : Shared) (H : Hp) (args : Args) (us : List Value) (vs : List V) (Q : VK) (E : XK),
    A.guards = some [] → Room k A → Env0 P w K mg base A outer s H → BindsTo s fd args (ps.zip us) → Vals vs us → sp vs H Q E →
      codeAny (model P w) A (.call (.ref f) args) (CR CX0 outer P w H s Q E) s
theorem lawAt_of {x : Str} {st : Stmt} {f : Addr} {fd : FuncData} {N ps : List Str} {k : Nat} {sp : Sp} (F : Fun K x x st f fd) (S : FnScope N ps (defScope st))
    (len : ∀ vs H Q E, sp vs H Q E → vs.length = ps.length)
    (hb : ∀ (cdv : Value) (A : Around) (outer : List Env) (s : Shared) (H : Hp) (vs : List V) (Q : VK) (E : XK), A.guards = some [] →
      Room k (A.deeper (envOfC x (defScope st) s.heap.objs.size f cdv)) → sp vs H Q E →
      ∃ t, PSs (cxOf CX0 P w K mg base N x (defScope st) f cdv A outer s H E).nox (defBody st) t ∧ t { nx := fun _ H' => Q .non H', rt := Q } (start N vs) H) :
    LawAt P w K mg base (k + 1) f fd ps sp := by
  intro A outer s H args us vs Q E hg hr e0 hbind rv hs
  obtain ⟨oc, od, kV, doc, pm, an, cdv, ct, osl, rfl, lk, hcd⟩ := F.ex
  have keeps : ∀ b o, base.get? b = some o → s.heap.get? b = some o := fun b o e => (e0.bs b o e).1
  have KX : K.In s.heap := e0.mod.kin.keeps keeps
  refine codeAny_call_function hr.depth (KX _ _ lk) rfl S.co S.gen rfl (PySem.W.codeRec_of KX hcd) (hbind _ _ _ _ ?_)
  refine wpAny_newFunctionEnv_cells S.kind (fun z hz => ?_) fun env he s1 xc => ?_
  · rcases S.par z.1 (List.of_mem_zip (show (z.1, z.2) ∈ ps.zip us from hz)).1 with q | q
    · exact Or.inl q
    · exact Or.inr ⟨q, PySem.W.cellsFrom_some _ _ _ (Or.inl q)⟩
  · subst he
    refine ⟨(e0.mod.nolimit.keeps keeps).keeps xc.toInCall.keep, codeAny_func ?_⟩
    obtain ⟨t, ht, hq⟩ := hb cdv A outer s H vs Q E hg (hr.deeper _) hs
    have I := inv_start (E := E) (CX := CX0) S hr.hd e0 (len _ _ _ _ hs) rv xc
    refine wpAny_mono (ht.nox.run [] s1 (start N vs) H _ I hq) (fun fl s' hz => ?_) fun e s' hz => hz
    cases fl with
    | ret u =>
      obtain ⟨v, _, H', J, r, q⟩ := hz
      exact ⟨v, H', J.os, J.bare, J.base, J.hok, r, q⟩
    | next =>
      obtain ⟨_, H', J, q⟩ := hz
      exact ⟨V.non, H', J.os, J.bare, J.base, J.hok, rfl, q⟩
    | brk =>
      obtain ⟨_, _, _, q⟩ := hz
      exact q.elim
    | cont =>
      obtain ⟨_, _, _, q⟩ := hz
      exact q.elim
end
/-- the script tracked at a: known to the object, or one of the module's own -/
def scriptH (a : Addr) (o : Obj) (ns : List Int) : Hp := fun b => if b = a then some (.frz o (.lst (ns.map V.int))) else Option.none
theorem law_goes {P : Program} {w : World} {K : PySem.W.Frag} {mg mb : Str → Option Value} {k : Nat} {fa a : Addr} {fd : FuncData} {x : Str} {sp : Sp} {s₁ : Shared} {vs : List Value} {ns : List Int}
    (KX : K.In s₁.heap) (hns : s₁.heap.Ns mainGlobals mg) (hb : s₁.heap.Ns builtinsNs mb)
    (hbb : ∀ x : Str, x ≠ "__name__" → mb x = bootBuiltins x) (hlim : s₁.heap.NoLimit) (hg : s₁.gens = #[])
    (ha : s₁.heap.get? a = some { cls := .type "list", data := .seq vs.toArray }) (hi : IntsAre vs ns) (hl : ns.length ≤ sizeLine) (hr : Room k callerA)
    (F : ∀ b : Heap, K.In b → b.Ns mainGlobals mg → LawAt P w K mg b k fa fd [x] sp)
    (hbind : ∀ (s : Shared) (u : Value), BindsTo s fd ⟨[u], []⟩ [(x, u)])
    (hsp : ∀ H : Hp, Only H → SqL K H a (ns.map V.int) → sp [.ref a] H (fun v _ => v = .bl true) fun _ _ _ => False) :
    codeAny (model P w) callerA (.call (.ref fa) ⟨[.ref a], []⟩)
      (fun r s' => r = .ok (.ret (.bool true)) ∧ OldK s₁.heap s'.heap ∧ s'.os = s₁.os ∧ AllBare s'.gens) s₁ := by
  have rv := vals_ints hi
  have main : ∀ H : Hp, Only H → SqL K H a (ns.map V.int) → HOk P w H s₁.heap → (∀ b, H b ≠ Option.none → b = a ∧ K.lookup a = Option.none) →
      codeAny (model P w) callerA (.call (.ref fa) ⟨[.ref a], []⟩)
        (fun r s' => r = .ok (.ret (.bool true)) ∧ OldK s₁.heap s'.heap ∧ s'.os = s₁.os ∧ AllBare s'.gens) s₁ := by
    intro H hO hS hok hA
    have free_ns : ∀ {b : Addr} {o : Obj} {es : Array DictEntry} {ep : Nat}, s₁.heap.get? b = some o → o.data = .dict es ep → H b = Option.none := fun {b o es ep} e d => by
      by_cases q : H b = Option.none
      · exact q
      · obtain ⟨rfl, _⟩ := hA b q
        rw [ha] at e
        cases e
        cases d
    have ns_of : ∀ {b : Addr} {m : Str → Option Value}, s₁.heap.Ns b m → (hidT s₁.heap H).Ns b m := fun h => by
      obtain ⟨o, es, ep, e, d, r⟩ := h
      exact ⟨o, es, ep, hidT_get e (free_ns e d), d, r⟩
    have kin : K.In (hidT s₁.heap H) := fun b o e => hidT_get (KX b o e) (by
      by_cases q : H b = Option.none
      · exact q
      · obtain ⟨rfl, q2⟩ := hA b q
        rw [q2] at e
        cases e)
    obtain ⟨mc, l1, l2⟩ := hlim
    have e0 : Env0 P w K mg (hidT s₁.heap H) callerA [] s₁ H :=
      { frames := rfl, mod := ⟨kin, ns_of hns, ⟨mb, ns_of hb, hbb⟩, ⟨mc, ns_of l1, l2⟩⟩, bs := fun b o e => of_hidT e, bsz := Nat.le_of_eq (hidT_size _ _),
        funs := trivial, frf := fun b z => absurd (show b ∈ ([] : List Addr) from z) (by simp), hok := hok, bare := .of_eq hg }
    have run := F _ kin (ns_of hns) callerA [] s₁ H ⟨[.ref a], []⟩ [.ref a] [.ref a] _ _ rfl hr e0 (hbind s₁ (.ref a)) (.cons rfl .nil) (hsp H hO hS)
    refine codeAny_mono run fun r s' h => ?_
    rcases r with e | fl
    · exact False.elim h
    · cases fl with
      | ret u =>
        obtain ⟨v, H', os, bare, un, hok', r', q⟩ := h
        have q' : v = .bl true := q
        subst q'
        have eu : u = Value.bool true := r'
        subst eu
        refine ⟨rfl, OldK.of_keep fun b o e => ?_, os, bare⟩
        by_cases q : H b = Option.none
        · exact un.keep b o e q (fun z => absurd (show b ∈ ([] : List Addr) from z) (by simp)) (by simp)
        · rcases hO b with z | ⟨ob, xs, z⟩
          · exact absurd z q
          · have e1 := (hok b _ z).1
            have e2 := (hok' b _ (un.frzs b ob _ z)).1
            rw [e] at e1
            cases e1
            exact e2
      | next => exact False.elim h
      | brk => exact False.elim h
      | cont => exact False.elim h
  by_cases hk : K.lookup a = Option.none
  · refine main (scriptH a { cls := .type "list", data := .seq vs.toArray } ns) (fun b => ?_) (.inl (.inr ⟨_, if_pos rfl⟩)) (fun b u z => ?_) fun b z => ?_
    · by_cases q : b = a
      · exact .inr ⟨_, _, if_pos q⟩
      · exact .inl (if_neg q)
    · unfold scriptH at z
      by_cases q : b = a
      · rw [if_pos q] at z
        cases z
        subst q
        exact ⟨ha, by rw [List.length_map]; exact hl, vs, _, rv, ha⟩
      · rw [if_neg q] at z
        cases z
    · by_cases q : b = a
      · exact ⟨q, hk⟩
      · exact absurd (if_neg q) z
  · obtain ⟨o, ho⟩ : ∃ o, K.lookup a = some o := by
      cases e : K.lookup a with
      | none => exact absurd e hk
      | some o => exact ⟨o, rfl⟩
    have e := KX a o ho
    rw [ha] at e
    cases e
    refine main (fun _ => Option.none) (fun _ => .inl rfl) ?_ (fun b u z => by cases z) fun b z => absurd rfl z
    exact .inr ⟨_, vs.toArray, _, ho, rfl, rfl, rfl, by rw [List.size_toArray, hi.length]; exact hl, by simpa using rv⟩
theorem walk_law {l : PySem.W.OpenLaw} {n k : Nat} {q : Program} {loose : List Str} {XP : (Str → Option Value) → Heap → Prop} {YP : World → Heap → Prop} {d : DefRec} {K : Params → PySem.W.Frag} {sp : PySem.W.Frag → Sp} {x : Str}
    (hn : l.most = some n) (hn2 : n ≤ sizeLine) (hdf : d.params.defaults = []) (hr : Room k callerA)
    (hY : ∀ (w : World) (h : Heap), YP w h → (K w.params).In h)
    (F : ∀ (w : World) (mg : Str → Option Value) (fa : Addr) (h : Heap), (K w.params).In h → h.Ns mainGlobals mg → mg d.name = some (.ref fa) →
      ∃ fd : FuncData, (∀ (s : Shared) (u : Value), BindsTo s fd ⟨[u], []⟩ [(x, u)]) ∧
        ∀ b : Heap, (K w.params).In b → b.Ns mainGlobals mg → LawAt l.prog w (K w.params) mg b k fa fd [x] (sp (K w.params)))
    (hsp : ∀ (K : PySem.W.Frag) (H : Hp) (a : Addr) (ns : List Int), ns.length ≤ n → Only H → SqL K H a (ns.map V.int) → sp K [.ref a] H (fun v _ => v = .bl true) fun _ _ _ => False) :
    PySem.W.WalkO q loose XP YP l.row.toRowW d [] (fun f vs => PySem.call f vs) := by
  refine Att.attach_call hn hdf fun w s₀ s₁ mg mb fa o pm cd doc a vs ns G Y ho hd hcd hmg hobj hints hlen hg => ?_
  obtain ⟨fd, hb, hF⟩ := F w mg fa _ (hY w _ Y) G.T.g hmg
  exact law_goes (hY w _ Y) G.T.g G.T.b G.T.builtins G.T.nolimit hg hobj hints (Nat.le_trans hlen hn2) hr hF hb fun H hO hS => hsp _ H a ns hlen hO hS
end Cm

/-! defs that are called by name; the hand of draws -/
namespace Cm
open PySem L2 PySem.Spec PyProof.Rows
structure Cl (P : Program) (w : World) (K : PySem.W.Frag) (mg : Str → Option Value) (base : Heap) (k : Nat) (x : Str) (sp : Sp) : Prop where
  ex : ∃ (f : Addr) (fd : FuncData) (ps : List Str), FnOk P w K mg base CX0 k f fd ps sp ∧ mg x = some (.ref f) ∧ PySem.W.keepIn K (.ref f) = true ∧ Binds K fd ps []
/-- where a def of the text stands -/
structure At (K : PySem.W.Frag) (mg : Str → Option Value) (x : Str) (st : Stmt) (ps : List Str) : Prop where
  ex : ∃ (f : Addr) (fd : FuncData), Fun K x x st f fd ∧ mg x = some (.ref f) ∧ Binds K fd ps []
section
variable {P : Program} {w : World} {K : PySem.W.Frag} {mg : Str → Option Value} {base : Heap}
theorem cl_of {x : Str} {st : Stmt} {N ps : List Str} {k : Nat} {sp : Sp} (T : At K mg x st ps) (S : FnScope N ps (defScope st))
    (len : ∀ vs H Q E, sp vs H Q E → vs.length = ps.length)
    (hb : ∀ (f : Addr) (cdv : Value) (A : Around) (outer : List Env) (s : Shared) (H : Hp) (vs : List V) (Q : VK) (E : XK),
      Room k (A.deeper (envOfC x (defScope st) s.heap.objs.size f cdv)) → sp vs H Q E →
      ∃ t, PSs (cxOf CX0 P w K mg base N x (defScope st) f cdv A outer s H E).nox (defBody st) t ∧ t { nx := fun _ H' => Q .non H', rt := Q } (start N vs) H) :
    Cl P w K mg base (k + 1) x sp := by
  obtain ⟨f, fd, F, hm, b⟩ := T.ex
  exact ⟨f, fd, ps, F.ok S len (hb f), hm, F.kp, b⟩
end
section
variable {X : Cx} {j k : Nat} {x : Str} {sp : Sp} {e : Expr} {es : List Expr} {t : TA} {p pos : Pos}
theorem pe_c (c : Cl X.prog X.w X.K X.mg X.base k x sp) (hr : Room j X.A) (hk : k ≤ j) (hg : Gl X x) (ha : PA X (e :: es) t)
    (hdb : (x == ("__debug__" : Str)) = false := by decide) (he : starEach (e :: es) X.env = (false, eval e X.env) :: starEach es X.env := by rfl)
    (hpl : (backTo pos (starEach es X.env)).any (·.1) = false := by rfl) : PE X (.Call (.Name x p) (e :: es) [] pos) (tCall sp [] E0 t) := by
  obtain ⟨f, fd, ps, F, hm, kp, b⟩ := c.ex
  exact pe_call F (hr.mono hk) hg hm kp b .nil pass0 ha hdb he hpl
end

theorem map_at {α β : Type} {f : α → β} {xs : List α} {i : Nat} {y : β} (h : (xs.map f)[i]? = some y) : ∃ x, xs[i]? = some x ∧ y = f x := by
  rw [List.getElem?_map] at h
  obtain ⟨x, a, b⟩ := Option.map_eq_some_iff.mp h
  exact ⟨x, a, b.symm⟩

/-! ### a word between a statement and what follows it -/
def tMid (t u : TS) : TS := fun D σ H => ∃ M : L2.St → Hp → Prop, t { D with nx := M } σ H ∧ ∀ σ' H', M σ' H' → u D σ' H'
theorem pss_mid {X : Cx} {st : Stmt} {rest : List Stmt} {t u : TS} (h1 : PS X st t) (h2 : PSs X rest u) : PSs X (st :: rest) (tMid t u) :=
  ⟨fun pins s σ H D I h => by
    obtain ⟨M, hm, hu⟩ := h
    refine wpAny_execs_cons (thn (h1.run pins s σ H { D with nx := M } I hm) fun fl s1 q => ?_)
    cases fl with
    | next =>
      obtain ⟨σ', H', I', q⟩ := q
      exact h2.run pins s1 σ' H' D I' (hu σ' H' q)
    | ret v => exact q
    | brk => exact q
    | cont => exact q⟩

/-! ### the hand of draws -/
/-- a hand stands at h: the cells, how many were taken, a great cell that is drawn from, a sum -/
def Hand (H : Hp) (h c : Addr) : Prop := ∃ (cells : List Int) (i b t : Int), H h = some (.lst [.ref c, .int i, .int b, .int t]) ∧ H c = some (.lst (cells.map V.int)) ∧ c ≠ h ∧ 0 ≤ i ∧ cells.length ≤ 63
theorem Hand.lst {H : Hp} {h c : Addr} (x : Hand H h c) : ∃ xs, H h = some (.lst xs) := let ⟨_, _, _, _, e, _⟩ := x; ⟨_, e⟩
theorem Hand.same {H H' : Hp} {h c : Addr} (x : Hand H h c) (s : Same H H') : Hand H' h c := by
  obtain ⟨cells, i, b, t, e1, e2, n, z⟩ := x
  exact ⟨cells, i, b, t, s _ _ e1, s _ _ e2, n, z⟩
/-- the hand alone is changed -/
abbrev Kh (h : Addr) : Hp → Hp → Prop := Kp (fun a => a = h)
theorem Hand.kh {H H' : Hp} {h c : Addr} (x : Hand H h c) (s : Same H H') : Kh h H H' := .of_same (fun a m => by subst m; exact x.lst) s
theorem Hand.kr {H : Hp} {h c : Addr} (x : Hand H h c) : Kh h H H := x.kh (Same.refl H)

def spMix : Sp := fun vs H Q _ => ∃ a b : Int, vs = [.int a, .int b] ∧ ∀ n : Int, Q (.int n) H
def spHand (K : PySem.W.Frag) : Sp := fun vs H Q _ => ∃ (a : Addr) (ns : List Int), vs = [.ref a] ∧ SqL K H a (ns.map V.int) ∧ ns.length ≤ 63 ∧ ∀ h c H', Same H H' → H h = Option.none → H c = Option.none → Hand H' h c → Q (.ref h) H'
def spDraw : Sp := fun vs H Q _ => ∃ (h c : Addr) (m : Int), vs = [.ref h, .int m] ∧ Hand H h c ∧ 0 < m ∧ m < 2 ^ 100 ∧ ∀ (n : Int) (H' : Hp), 0 ≤ n → n < m → Kh h H H' → Hand H' h c → Q (.int n) H'
/-- pick out of a list or tuple -/
def spPick (K : PySem.W.Frag) : Sp := fun vs H Q _ => ∃ (h c a : Addr) (xs : List V), vs = [.ref h, .ref a] ∧ Hand H h c ∧ (SqL K H a xs ∧ a ≠ h ∨ SqT K H a xs) ∧ xs ≠ [] ∧ xs.length ≤ 1000 ∧
  ∀ (v : V) (H' : Hp), v ∈ xs → Kh h H H' → Hand H' h c → Q v H'
end Cm

/-! further rules: a tuple read backwards, enumerate over a tuple, sorted(d.keys()) -/
namespace Cm
open PySem L2 PySem.Spec PyProof.Rows
section
variable {prog : Program} {w : World} {A : Around} {E : Value → Shared → Prop} {s : Shared}
theorem adjust_back (n : Nat) : Builtin.Slice.sliceAdjust none none (-1) (n : Int) = ((n : Int) - 1, -1) := by
  unfold Builtin.Slice.sliceAdjust
  simp
theorem places_back (n : Nat) : Builtin.Slice.slicePlaces ((n : Int) - 1) (-1) (-1) = n := by
  unfold Builtin.Slice.slicePlaces
  simp
  try omega
theorem applied_back {sl : Addr} {vs : Value} {n : Nat} {Q : Int × Int × Nat → Shared → Prop} (hs : s.heap.IsSliceOf sl .none .none vs) (ps : IsPart vs (some (-1)))
    (h : Q ((n : Int) - 1, -1, n) s) : wpAny (model prog w) A (Builtin.Slice.sliceApplied (.ref sl) (pure (n : Int))) Q E s := by
  obtain ⟨os, hos, hcs, hds⟩ := id hs
  unfold Builtin.Slice.sliceApplied Builtin.Slice.sliceFields
  refine wpAny_bind (wpAny_bind (wpAny_field hos hds (x := .none) rfl (wpAny_bind (wpAny_field hos hds (x := .none) rfl (wpAny_bind (wpAny_field hos hds (x := vs) rfl (wpAny_pure ?_)))))))
  refine wpAny_bind (HT.slicePart_ ps ?_)
  show wpAny _ _ (if ((-1 : Int) == 0) = true then _ else _) _ _ s
  rw [if_neg (by decide)]
  refine wpAny_bind (slicePart_none (wpAny_bind (slicePart_none (wpAny_bind (wpAny_pure ?_)))))
  show wpAny _ _ (match Builtin.Slice.sliceAdjust none none (-1) (n : Int) with | (lo, hi) => pure (lo, (-1 : Int), Builtin.Slice.slicePlaces lo hi (-1))) _ _ s
  rw [adjust_back]
  show wpAny _ _ (pure ((n : Int) - 1, (-1 : Int), Builtin.Slice.slicePlaces ((n : Int) - 1) (-1) (-1))) _ _ s
  rw [places_back]
  exact wpAny_pure h
theorem filterMap_eqs {α β : Type} {f g : α → Option β} : ∀ l : List α, (∀ x ∈ l, f x = g x) → l.filterMap f = l.filterMap g
  | [], _ => rfl
  | x :: l, h => by
    rw [List.filterMap_cons, List.filterMap_cons, h x List.mem_cons_self, filterMap_eqs l fun y hy => h y (List.mem_cons_of_mem _ hy)]
theorem pick_all (m : List Value) : (List.range m.length).filterMap (fun k => m[k]?) = m := by
  induction m with
  | nil => rfl
  | cons a m ih =>
    rw [List.length_cons, List.range_succ_eq_map, List.filterMap_cons]
    simp only [List.getElem?_cons_zero, List.filterMap_map]
    refine congrArg _ (Eq.trans (filterMap_eqs _ fun k _ => ?_) ih)
    simp
theorem pick_back (xs : Array Value) : ((List.range xs.size).filterMap fun (k : Nat) => xs[((xs.size : Int) - 1 + (k : Int) * -1).toNat]?).toArray = xs.toList.reverse.toArray := by
  have h1 : (List.range xs.size).filterMap (fun (k : Nat) => xs[((xs.size : Int) - 1 + (k : Int) * -1).toNat]?) = (List.range xs.size).filterMap (fun k => xs.toList.reverse[k]?) := by
    refine filterMap_eqs _ fun k hk => ?_
    have hk' : k < xs.size := List.mem_range.mp hk
    have e2 : ((xs.size : Int) - 1 + (k : Int) * -1).toNat = xs.size - 1 - k := by omega
    rw [e2, List.getElem?_reverse (by simpa using hk'), Array.getElem?_toList]
    simp
  have h3 := pick_all xs.toList.reverse
  rw [List.length_reverse, Array.length_toList] at h3
  rw [h1, h3]
theorem getItem_tuple_back {t sl : Addr} {items : Array Value} {vs : Value} {Q : Value → Shared → Prop} (ht : IsTup s.heap t items) (hs : s.heap.IsSliceOf sl .none .none vs) (ps : IsPart vs (some (-1)))
    (h : Q (.ref s.heap.objs.size) { s with heap := s.heap.push { cls := .type "tuple", data := .seq items.toList.reverse.toArray } })
    (hsz : items.size ≤ sizeLine) : wpAny (model prog w) A (getItem (.ref t) (.ref sl)) Q E s := by
  have hok : sizeOk (.seq items.toList.reverse.toArray) := by
    show items.toList.reverse.toArray.size ≤ sizeLine
    rw [List.size_toArray, List.length_reverse, Array.length_toList]
    exact hsz
  obtain ⟨os, hos, hcs, hds⟩ := id hs
  have hTs : s.TypeIs (.ref sl) "slice" := ⟨os, hos, hcs⟩
  unfold getItem
  try with_reducible refine wpAny_holding ?_
  first | refine wpAny_bind (wpAny_pure ?_) | skip
  refine wpAny_bind (wpAny_sequenceKey ht.typeIs (by decide) ?_)
  refine wpAny_bind (wpAny_callSpecial?_slot (name := Str.ofString "__getitem__") ht.typeIs slot_tuple_getitem (wpAny_call_entry slot_tuple_getitem ht.typeIs PyProof.Rows.entry_tuple_getitem ?_ (PyProof.Rows.args_tuple_getitem _ _)))
  show wpAny _ _ (Builtin.Tuple.tupleItemsOf (.ref t) >>= _) _ _ s
  refine wpAny_bind (tupleItemsOf_ ht (wpAny_bind (wpAny_typeOf hTs ?_)))
  rw [if_pos (by decide)]
  refine wpAny_bind (applied_back (n := items.size) hs ps ?_)
  show wpAny _ _ (if ((((items.size : Int) - 1) == 0 && (-1 : Int) == 1 && items.size == items.size) = true) then _ else _) _ _ s
  rw [if_neg (by simp), pick_back]
  first
    | exact wpAny_bind (m := Builtin.Tuple.tupleExact _) (wpAny_newObj_type (wpAny_pure ⟨_, rfl, wpAny_pure h⟩) hok)
    | exact wpAny_bind (m := Builtin.Tuple.tupleExact _) (wpAny_newObj_type (wpAny_bind (wpAny_pure (wpAny_pure ⟨_, rfl, wpAny_pure h⟩))) hok)
end
section
variable {X : Cx}
def tRevT (K : PySem.W.Frag) (te : TE) : TE := fun σ H Q => te σ H fun x H1 => ∃ a xs, x = .ref a ∧ SqT K H1 a xs ∧ ∀ p, H1 p = Option.none → Q (.ref p) (upd H1 p (.tup xs.reverse))
theorem pe_revT {e : Expr} {te : TE} {k : Nat} {p1 p2 p3 pos : Pos} (he : PE X e te) : PE X (.Subscript e (.Slice none none (some (.UnaryOp .USub (.Constant (.int 1) k p1) p2)) p3) pos) (tRevT X.K te) := by
  refine ⟨fun pins s σ H Q I h => ?_⟩
  refine Subscript_ (thn (he.run pins s σ H _ I h) fun v s1 hz => ?_)
  obtain ⟨x, H1, I1, r1, a, xs, ex, hx, q⟩ := hz
  subst ex
  cases r1
  have hst : PO X (some (.UnaryOp .USub (.Constant (.int 1) k p1) p2)) (tPart (tUn (rU fun i => .int (-i)) (tC (.int 1)))) := po_some (pe_un un_neg pe_int)
  refine wpAny_Slice (thn (po_none.run pins s1 σ H1 (fun o H2 => o = none ∧ H2 = H1) I1 ⟨rfl, rfl⟩) fun vl s2 hz => ?_)
  obtain ⟨l, H2, I2, pl, el, e2⟩ := hz
  subst el e2
  refine thn (po_none.run pins s2 σ H2 (fun o H3 => o = none ∧ H3 = H2) I2 ⟨rfl, rfl⟩) fun vu s3 hz => ?_
  obtain ⟨u, H3, I3, pu, eu, e3⟩ := hz
  subst eu e3
  refine thn (hst.run pins s3 σ H3 (fun o H4 => o = some (-1) ∧ H4 = H3) I3 ⟨1, rfl, -1, rfl, rfl, rfl⟩) fun vs s4 hz => ?_
  obtain ⟨o, H4, I4, ps, eo, e4⟩ := hz
  subst eo e4
  cases pl
  cases pu
  have I5 : Inv X pins σ H4 { s4 with heap := s4.heap.push { cls := .type "slice", data := .fields #[.none, .none, vs] } } := I4.kept (t' := s4.toks) fun b ob q => Heap.get?_push_of_some _ q
  obtain ⟨its, r, ht, hz⟩ := I5.tuple hx
  have hlen := r.length
  show wpAny (model X.prog X.w) X.A (subscriptTail e (.Slice none none (some (.UnaryOp .USub (.Constant (.int 1) k p1) p2)) p3) (.ref a) (.ref s4.heap.objs.size)) (EP X pins σ Q) X.xe
    { s4 with heap := s4.heap.push { cls := .type "slice", data := .fields #[.none, .none, vs] } }
  refine tail_any (ops := [.ref a, .ref s4.heap.objs.size]) ht.typeIs slot_tuple_getitem.lookup ?_ (by with_unfolding_all rfl)
  refine getItem_tuple_back ht (Heap.IsSliceOf.new _ .none .none vs) ps ?_ (by rw [List.size_toArray]; omega)
  refine ⟨.ref _, _, I5.laid (t' := s4.toks) (o := .tup xs.reverse) (fun b ob q => Heap.get?_push_of_some _ q) (Nat.le_refl _) ?_, rfl, q _ (I5.hok.fresh (Nat.le_refl _))⟩
  exact ⟨by rw [List.length_reverse]; exact hz, its.reverse, r.reverse, IsTup.new _ _⟩
end

/-! ### enumerate over a tuple -/
theorem enum_new1 {v : Value} {o : Obj} {G : Heap → Prop} (B : Begins v o G) :
    Meets (Builtin.«enumerate.__new__» ⟨[.type "enumerate", v], []⟩) (fun _ R s => G s.heap ∧
      R (.ok (.ret (.ref (s.heap.push o).objs.size))) { s with heap := (s.heap.push o).push { cls := .type "enumerate", data := .fields #[.none, .bool false, .ref s.heap.objs.size, rawInt 0, .none, .none] } }) :=
  .of_wp fun prog w A R s h => by
    obtain ⟨hp, g, d, tk, os⟩ := s
    obtain ⟨h1, h2⟩ := h
    have hsub := sub_enumerate
    have it : ∀ {A' : Around} {E : Value → Shared → Prop} {Q : Value → Shared → Prop}, Q (.ref hp.objs.size) ⟨hp.push o, g, d, tk, os⟩ → wpAny (model prog w) A' (pyIter v) Q E ⟨hp, g, d, tk, os⟩ :=
      fun q => B.iter prog w _ _ ⟨hp, g, d, tk, os⟩ _ h1 q
    wp_walk using it
    refine wpAny_stack_any fun st => wpAny_pure ?_
    split
    · rename_i c _ _ _ _ _
      cases (c == Value.type "enumerate") <;> (wp_walk using it; exact ⟨_, rfl, h2⟩)
    · wp_walk using it
      exact ⟨_, rfl, h2⟩
section
variable {prog : Program} {w : World} {A : Around} {E : Value → Shared → Prop} {s : Shared}
theorem call_enum1 {v : Value} {o : Obj} {G : Heap → Prop} {Q : Value → Shared → Prop} (B : Begins v o G) (h1 : G s.heap)
    (h : ∀ h', IsEnum h' (s.heap.objs.size + 1) s.heap.objs.size 0 .none → h'.get? s.heap.objs.size = some o → h'.objs.size = s.heap.objs.size + 2 →
      (∀ b o, s.heap.get? b = some o → h'.get? b = some o) → Q (.ref (s.heap.objs.size + 1)) { s with heap := h' }) :
    wpAny (model prog w) A (call (.type "enumerate") [v]) Q E s := by
  refine callType_new F.called_enumerate (by decide) (F.typeCall_enumerate_1 _) (F.newCall_enumerate_1 _) (fun obj => F.args_object_init_2 obj _) F.entry_enumerate_new (enum_new1 B) ⟨h1, ?_⟩
  have hz : (s.heap.push o).objs.size = s.heap.objs.size + 1 := Heap.size_push ..
  rw [hz]
  have he : IsEnum ((s.heap.push o).push { cls := .type "enumerate", data := .fields #[.none, .bool false, .ref s.heap.objs.size, rawInt 0, .none, .none] }) (s.heap.objs.size + 1) s.heap.objs.size 0 .none := by
    have e := Heap.get?_push_size (s.heap.push o) (o := { cls := .type "enumerate", data := .fields #[.none, .bool false, .ref s.heap.objs.size, rawInt 0, .none, .none] }) rfl
    rw [hz] at e
    exact e
  exact ⟨⟨_, he, rfl⟩, h _ he (Heap.get?_push_of_some _ (Heap.get?_push_size _ B.free)) (by rw [Heap.size_push, hz]) fun b o x => Heap.get?_push_of_some _ (Heap.get?_push_of_some _ x)⟩
end
/-- the tuple at a, each item in a new pair with its number -/
def IteT (K : PySem.W.Frag) (a : Addr) : It :=
  ⟨fun i H => ∃ (xs : List V) (x : V), SqT K H a xs ∧ xs[i]? = some x, fun i H v H' => ∃ T x, v = .ref T ∧ H T = Option.none ∧ H' = upd H T (.tup [.int (i : Nat), x]) ∧ ∀ xs, SqT K H a xs → xs[i]? = some x,
    fun i H => ∃ xs : List V, SqT K H a xs ∧ xs.length ≤ i⟩
theorem turn_enumT {P : Program} {w : World} {K : PySem.W.Frag} {elts : List Expr} {kk : Nat} {tpos : Pos} (a e it : Addr) :
    Turn P w K (.Tuple elts kk tpos) (IteT K a) [e, it] e (fun i h => (∃ old, IsEnum h e it ((i : Nat) : Int) old) ∧ h.IsTupleIter it a i ∧ e ≠ it ∧ a ≠ it ∧ a ≠ e) where
  mem := by simp
  obj := fun i h st b hb => by
    obtain ⟨⟨old, he⟩, ⟨o, ho, hc, hd⟩, _⟩ := st
    rcases (show b = e ∨ b = it by simpa using hb) with z | z
    · rw [z]; exact ⟨_, he, fun v q => nomatch q⟩
    · rw [z]; exact ⟨o, ho, fun v q => by rw [hd] at q; cases q⟩
  keep := fun i h h' st k => let ⟨⟨old, he⟩, hi, hne⟩ := st; ⟨⟨old, k e (by simp) _ he⟩, hi.at fun o q => k it (by simp) o q, hne⟩
  item := by
    intro X hP hw hK hc i pins s σ H E I hf st hg
    subst hP hw hK
    obtain ⟨⟨old, he⟩, hit, hne, hai, hae⟩ := st
    obtain ⟨xs, x, hq, hx⟩ := hg
    obtain ⟨its, rv, p, hz⟩ := I.tuple hq
    obtain ⟨u, hu, ru⟩ := rv.get hx
    have hel : e < s.heap.objs.size := Heap.lt_size he
    have hil : it < s.heap.objs.size := by obtain ⟨_, q, _⟩ := hit; exact Heap.lt_size q
    have hlt : i < its.toArray.size := by
      rw [List.size_toArray]
      exact (List.getElem?_eq_some_iff.mp hu).1
    refine wpAny_pyNext_enum_itemD (Draws.tuple (prog := X.prog) (w := X.w) (A := X.A.in1) (I.ok.hd hc) it a hai its.toArray) he ⟨hit, p⟩ hlt hne (by simp [hne, Ne.symm hae]) fun y h' tk hy ho hst hT hsz hk => ?_
    have ey : y = u := by
      have q : its[i]? = some y := by simpa using hy
      rw [hu] at q
      exact (Option.some.inj q).symm
    subst ey
    refine ⟨_, rfl, wpAny_letOwnedTupleGo_enum (s := { s with heap := h', toks := tk + 1 }) ho fun h'' he' sb => ?_⟩
    have hT2 : h''.get? s.heap.objs.size = some { cls := .type "tuple", data := .seq #[.int i tk, y] } := (sb.2 _ (Nat.ne_of_gt hel)).trans hT
    have new : ObjOk X.prog X.w (upd H s.heap.objs.size (.tup [.int (i : Nat), x])) h'' s.heap.objs.size (.tup [.int (i : Nat), x]) :=
      ⟨by show 2 ≤ sizeLine; decide, [.int i tk, y], .cons ⟨_, rfl⟩ (.cons ru .nil), ⟨_, hT2, rfl, _, rfl⟩⟩
    have I1 : Inv X pins σ (upd H s.heap.objs.size (.tup [.int (i : Nat), x])) { s with heap := h'', toks := tk + 1 } :=
      I.turnedNew (ch := [e, it]) (fun b ob hb q => (sb.2 b (fun z => hb (by simp [z]))).trans (hk b ob (fun z => hb (by simp [z])) (fun z => hb (by simp [z])) q)) hf (Nat.le_refl _) new
    refine ⟨.ref s.heap.objs.size, _, I1, rfl, ⟨_, x, rfl, I.hok.fresh (Nat.le_refl _), rfl, fun ys hy => by rw [I.tuple_inj hy hq]; exact hx⟩, ⟨⟨y, ?_⟩, hst.1.at fun o q => (sb.2 it (Ne.symm hne)).trans q, hne, hai, hae⟩, fun b hb => ?_⟩
    · have e1 : ((i + 1 : Nat) : Int) = (i : Int) + 1 := by omega
      rw [e1]; exact he'
    · have hb' : b < s.heap.objs.size := by
        rcases (show b = e ∨ b = it by simpa using hb) with z | z
        · rw [z]; exact hel
        · rw [z]; exact hil
      rw [upd_ne (Nat.ne_of_lt hb')]
      exact (hf b hb).1
  done := by
    intro X hP hw hK hc i pins s σ H E I hf st hg
    subst hP hw hK
    obtain ⟨⟨old, he⟩, hit, hne, hai, hae⟩ := st
    obtain ⟨xs, hq, hx⟩ := hg
    obtain ⟨its, rv, p, hz⟩ := I.tuple hq
    obtain ⟨f0, f1, f2, f3, f4, f5⟩ := hf it (by simp)
    have hl := rv.length
    have D : Draws X.prog X.w X.A.in1 it [it, a] i (fun _ _ => False) (fun j h => j = i ∧ h.IsTupleIter it a i ∧ h.IsTuple a its.toArray) :=
      { live := fun _ _ st => let ⟨o, ho, _⟩ := st.2.1; ⟨o, ho⟩
        frame := fun _ _ _ st hk => ⟨st.1, st.2.1.at fun o e => hk it (by simp) o e, st.2.2.at fun o e => hk a (by simp) o e⟩
        item := fun j s Q E hj st => absurd hj (by rw [st.1]; exact Nat.lt_irrefl _)
        done := fun s Q E st hE => wpAny_nextOf_tuple_end (I.ok.hd hc) st.2.1 st.2.2 (by simp; omega) hE }
    exact wpAny_pyNext_enum_endD D he ⟨rfl, hit, p⟩ fun h' eb => ⟨rfl, I.turned (t' := s.toks) (fun b o hb q => eb b o hb q) f0 f1 f3 f4 f5⟩
  self := fun A i s Q E st h => let ⟨⟨_, he⟩, _⟩ := st; wpAny_pyIter_enum he h
def iEnumT (K : PySem.W.Frag) (ta : TA) : TI := fun σ H R => ta σ H fun vs H1 => ∃ a xs, vs = [.ref a] ∧ SqT K H1 a xs ∧ R (IteT K a) H1
theorem pi_enumT {X : Cx} {e : Expr} {ta : TA} {p pos tpos : Pos} {elts : List Expr} {kk : Nat} (hg : Gl X "enumerate") (hm : X.mg "enumerate" = none) (ha : PA X [e] ta) (hs : starEach [e] X.env = [(false, eval e X.env)] := by rfl) :
    PI X (.Tuple elts kk tpos) (.Call (.Name "enumerate" p) [e] [] pos) (iEnumT X.K ta) := by
  refine ⟨fun pins s σ H R I h => ?_⟩
  refine Call_ (ld_blt I hg hm boot_enumerate (PyProof.Rows.callWith_type1 (thn (ha.run pos pins s σ H _ I h) fun us s1 hz => ?_) hs rfl))
  obtain ⟨vs, H1, I1, r1, a, xs, ex, hq, q⟩ := hz
  subst ex
  cases r1 with
  | cons r rr =>
    cases rr
    cases r
    obtain ⟨its, rv, p', hz⟩ := I1.tuple hq
    refine call_enum1 (begins_tuple a its.toArray) p' fun h' he hit hsz hk => wpAny_pyIter_enum he ?_
    have hal : a < s1.heap.objs.size := p'.lt
    refine ⟨s1.heap.objs.size + 1, [s1.heap.objs.size + 1, s1.heap.objs.size], _, _, H1, rfl, I1.kept (t' := s1.toks) hk, turn_enumT a (s1.heap.objs.size + 1) s1.heap.objs.size,
      ⟨⟨.none, he⟩, ⟨_, hit, rfl, rfl⟩, Nat.succ_ne_self _, Nat.ne_of_lt hal, Nat.ne_of_lt (Nat.lt_succ_of_lt hal)⟩, fun b hb => ?_, q⟩
    have hle : s1.heap.objs.size ≤ b := by
      rcases (show b = s1.heap.objs.size + 1 ∨ b = s1.heap.objs.size by simpa using hb) with z | z
      · rw [z]; exact Nat.le_add_right _ _
      · rw [z]; exact Nat.le_refl _
    exact I1.fpOk hle (I1.hok.fresh hle)
theorem walk_enumT {K : PySem.W.Frag} {a : Addr} {xs : List V} : Walk (IteT K a) xs.length (fun H => SqT K H a xs) (YPair (fun i => some (.int (i : Nat))) (fun i => xs[i]?)) := by
  refine ⟨fun i _ hi q => ⟨xs, xs[i], q, by simp [hi]⟩, fun _ q => ⟨xs, q, Nat.le_refl _⟩, fun i H v H' _ q y => ?_⟩
  obtain ⟨T, x, h1, h2, h3, h4⟩ := y
  exact ⟨T, .int (i : Nat), x, h1, h2, h3, rfl, h4 xs q⟩
theorem walk_zipT {K : PySem.W.Frag} {a b : Addr} {xs ys : List V} {n : Nat} (hn : n = min xs.length ys.length) : Walk (RZ.ItzT K a b) n (fun H => SqT K H a xs ∧ SqT K H b ys) (YPair (fun i => xs[i]?) (fun i => ys[i]?)) := by
  subst hn
  refine ⟨fun i _ hi q => ?_, fun _ q => ⟨xs, ys, q.1, q.2, by omega⟩, fun i H v H' _ q y => ?_⟩
  · have h1 : i < xs.length := by omega
    have h2 : i < ys.length := by omega
    exact ⟨xs, ys, xs[i], ys[i], q.1, q.2, by simp [h1], by simp [h2]⟩
  · obtain ⟨T, x, z, h1, h2, h3, h4, h5⟩ := y
    exact ⟨T, x, z, h1, h2, h3, h4 xs q.1, h5 ys q.2⟩

/-! ### sorted(d.keys()) of a dict of int keys -/
section
variable {X : Cx}
/-- the view r of the keys of the dict at d -/
def ViewO (r d : Addr) : HO := .ext fun h => PySem.W.KdlKeysView h r d
def tKeys (td : TE) : TE := fun σ H Q => td σ H fun x H1 => ∃ d, x = .ref d ∧ (∃ kvs, H1 d = some (.dK kvs)) ∧ ∀ r, H1 r = Option.none → Q (.ref r) (upd H1 r (ViewO r d))
theorem pe_keys {e : Expr} {td : TE} {apos cpos : Pos} (he : PE X e td) (hbase : attributeBase e "keys" X.env (eval e X.env) = eval e X.env := by rfl) (hline : (apos.endLine == cpos.line) = true := by rfl) :
    PE X (.Call (.Attribute e "keys" apos) [] [] cpos) (tKeys td) := by
  refine ⟨fun pins s σ H Q I h => ?_⟩
  refine wpAny_Call_method (T := "dict") (id := "dict.keys") hbase rfl hline F.plainAttrs_dict F.slot_dict_keys F.type_dict_keys (thn (he.run pins s σ H _ I h) fun u s1 hz => ?_)
  obtain ⟨x, H1, I1, rx, d, ex, ⟨kvs, hd⟩, q⟩ := hz
  subst ex
  obtain rfl : u = Value.ref d := rx
  obtain ⟨z, lo, vs, rel, dd⟩ := dk_of I1.hok hd
  refine ⟨dd.typeIs, dd.mapOf.noDict, ?_⟩
  show wpAny _ _ (callWith cpos (.builtin "dict.keys") [.ref d] [] []) _ X.xe s1
  have fin : EP X pins σ Q (.ref s1.heap.objs.size) { s1 with heap := s1.heap.push { cls := .type "dict_keys", data := .fields #[.ref d] } } := by
    refine ⟨.ref s1.heap.objs.size, upd H1 s1.heap.objs.size (ViewO s1.heap.objs.size d), I1.laid (t' := s1.toks) (fun b u e => Heap.get?_push_of_some _ e) (Nat.le_refl _) ?_, rfl, q _ (I1.hok.fresh (Nat.le_refl _))⟩
    refine ⟨⟨_, Heap.get?_push_size _ rfl, rfl, rfl⟩, ⟨_, Heap.get?_push_size _ rfl⟩, fun h1 h2 a b => ?_⟩
    obtain ⟨o, ho, c⟩ := a
    exact ⟨o, b o ho, c⟩
  exact method_meetsIn F.slot_dict_keys F.entry_dict_keys rfl (PySem.evalArgs_none ⟨rfl, dd.typeIs, F.args_dict_keys_1 _, _, PySem.W.kdl_meets_keys (mixKind X.prog X.w) d lo, ⟨vs, dd⟩, fin⟩)
theorem call_sortedK (hcalm : X.calm = true) : CallR X (.builtin "sorted") (fun xs H Q => ∃ (r d : Addr) (kvs : List (Key × V)) (ks : List Int), xs = [.ref r] ∧ H r = some (ViewO r d) ∧ H d = some (.dK kvs) ∧ kvs.map (·.1) = ks.map Sum.inl ∧ ks.length < 64 ∧
    ∀ (ys : List Int) (p : Addr), ys.Perm ks → ys.Pairwise (· ≤ ·) → H p = Option.none → Q (.ref p) (upd H p (.lst (ys.map V.int)))) := by
  intro pins s σ H xs us Q I rr q
  obtain ⟨r, d, kvs, ks, ex, hr, hd, hks, h64, q⟩ := q
  subst ex
  obtain ⟨u, eu, rx⟩ := vals1 rr
  subst eu
  cases rx
  have hv : PySem.W.KdlKeysView s.heap r d := (I.hok r _ hr).1
  obtain ⟨z, lo, vs, rel, dd⟩ := dk_of I.hok hd
  obtain ⟨ep, hat⟩ := dd.dictAt
  have hkeys : vs.map (·.1) = ks.map Sum.inl := rel.keys.symm.trans hks
  have hl : vs.length = ks.length := by simpa using congrArg List.length hkeys
  have h16 : vs.length ≤ sizeLine := by rw [hl, sizeLine_eq]; omega
  refine Calls.call_function_entry PyProof.Rows.kind_sorted PyProof.Rows.plain_sorted PyProof.Rows.entry_sorted (PyProof.Rows.args_sorted1 _) ?_
  unfold Builtin.«sorted»
  refine wpAny_bind (m := checkCount "sorted" 1 1 _) (wpAny_pure ?_)
  refine wpAny_bind (PySem.W.kdu_collect (A := X.A.in1) (PySem.W.kdl_keys (knd := mixKind X.prog X.w) (r := r) (d := d) (kvs := vs) (ep := ep)) (I.ok.hd hcalm) ⟨hv, hat⟩ h16 fun h' tk acc hk hacc => ?_)
  have hal : acc.toList.length = ks.length := by rw [Array.length_toList, hacc.1, hl]
  have hS : IntsAre acc.toList ks := ints_each hal fun j v e => by
    obtain ⟨k, x, e1, e2⟩ := hacc.2 j v (by rw [← Array.getElem?_toList]; exact e)
    have e3 : (vs.map (·.1))[j]? = some k := by rw [List.getElem?_map, e1]; rfl
    rw [hkeys, List.getElem?_map] at e3
    obtain ⟨y, ey, e4⟩ := Option.map_eq_some_iff.mp e3
    subst e4
    rcases keyIs_shape (show keyIs (Sum.inl y) v = true from e2) with ⟨i, t, ek, ev⟩ | ⟨_, t, ek, ev⟩
    · cases ek
      exact ⟨y, t, ey, ev⟩
    · cases ek
  have I1 : Inv X pins σ H { s with heap := h', toks := tk } := I.kept hk
  refine wpAny_bind (wpAny_newList ?_ (by rw [hal, sizeLine_eq]; omega))
  have hoL : (h'.push (seqObj "list" acc.toList.toArray 0)).get? h'.objs.size = some (seqObj "list" acc.toList.toArray 0) := Heap.get?_push_size _ rfl
  show wpAny _ _ _ _ _ { s with heap := h'.push (seqObj "list" acc.toList.toArray 0), toks := tk }
  refine wpAny_bind (wpAny_holding (wpAny_call_entry PyProof.Rows.slot_list_sort ⟨_, hoL, rfl⟩ PyProof.Rows.entry_list_sort
    (PyProof.Rows.list_sort_tree (s := { s with heap := h'.push (seqObj "list" acc.toList.toArray 0), toks := tk }) hoL hS (by rw [hal]; exact h64) fun out ys g1 g2 g3 => ⟨_, rfl, ?_⟩) (PyProof.Rows.args_list_sort _)))
  obtain ⟨e', he'⟩ := PyProof.Rows.sortedHeap_at (vs := acc.toList) (out := out) hoL
  have hlen : (ys.map V.int).length ≤ sizeLine := by
    rw [List.length_map, g2.length_eq]
    exact Nat.le_trans (Nat.le_of_lt h64) (by decide)
  refine wpAny_pure ⟨_, rfl, .ref h'.objs.size, upd H h'.objs.size (.lst (ys.map V.int)), I1.laid (t' := tk) (fun b u e => ?_) (Nat.le_refl _)
    (show ObjOk X.prog X.w _ _ _ (.lst (ys.map V.int)) from ⟨hlen, out.toList, e', vals_of_ints g1, by rw [Array.toArray_toList]; exact he'⟩), rfl, q ys _ g2 g3 (I1.hok.fresh (Nat.le_refl _))⟩
  have hb : b < h'.objs.size := Heap.lt_size e
  rw [PyProof.Rows.sortedHeap_old (Nat.ne_of_lt hb) (by rw [size_push']; exact Nat.lt_succ_of_lt hb)]
  exact Heap.get?_push_of_some _ e
end
end Cm

/-! a dict of things by births -/
namespace Cm
open PySem L2
/-- a thing: a word, then data without lists -/
def windD (b : Int) : PyData := .tuple [.str "wind", .int (1000 + b), .int (2000 + b)]
def wordD : PyData → Str
  | .tuple (.str x :: _) => x
  | _ => ""
structure Th (b : Int) (d : PyData) : Prop where
  ex : ∃ (wd : Str) (r : List PyData), d = .tuple (.str wd :: r)
  fl : flatD d = true
  ok : okD d = true
  dp : d.depth ≤ 8
  wt : d.weight ≤ 4000
  wn : wordD d = "wind" → d = windD b
/-- the dict at d holds es -/
structure ThAt (K : PySem.W.Frag) (H : Hp) (d : Addr) (es : List (Int × PyData)) (kvs : List (Key × V)) : Prop where
  at_ : H d = some (.dK kvs)
  ks : kvs.map (·.1) = es.map (fun e => Sum.inl e.1)
  vs : DpAll K H (kvs.map (·.2)) (es.map (·.2))
  th : ∀ e ∈ es, Th e.1 e.2
def thg (es : List (Int × PyData)) (b : Int) : PyData := ((es.find? fun e => decide (e.1 = b)).map (·.2)).getD .none
def word (es : List (Int × PyData)) (b : Int) : Str := wordD (thg es b)
theorem th_find {K : PySem.W.Frag} {H : Hp} (b : Int) : ∀ (es : List (Int × PyData)) (kvs : List (Key × V)), kvs.map (·.1) = es.map (fun e => (Sum.inl e.1 : Key)) → DpAll K H (kvs.map (·.2)) (es.map (·.2)) →
    b ∈ es.map (·.1) → ∃ v, valV kvs (Sum.inl b) = some v ∧ Dp K H v (thg es b) ∧ (b, thg es b) ∈ es
  | [], _, _, _, m => by simp at m
  | e :: es, kvs, hk, hv, m => by
    cases kvs with
    | nil => simp at hk
    | cons a kvs =>
      simp only [List.map_cons, List.cons.injEq] at hk
      cases hv with
      | cons h1 h2 =>
        by_cases q : e.1 = b
        · refine ⟨a.2, ?_, ?_, ?_⟩
          · unfold valV
            rw [List.find?_cons_of_pos (by rw [hk.1, q]; simp)]
            rfl
          · have : thg (e :: es) b = e.2 := by
              unfold thg
              rw [List.find?_cons_of_pos (by simp [q])]
              rfl
            rw [this]
            exact h1
          · have : thg (e :: es) b = e.2 := by
              unfold thg
              rw [List.find?_cons_of_pos (by simp [q])]
              rfl
            rw [this, ← q]
            exact List.mem_cons_self
        · have m' : b ∈ es.map (·.1) := by
            simp only [List.map_cons, List.mem_cons] at m
            rcases m with m | m
            · exact absurd m.symm q
            · exact m
          obtain ⟨v, g1, g2, g3⟩ := th_find b es kvs hk.2 h2 m'
          have e2 : thg (e :: es) b = thg es b := by
            unfold thg
            rw [List.find?_cons_of_neg (by simpa using q)]
          refine ⟨v, ?_, by rw [e2]; exact g2, by rw [e2]; exact List.mem_cons_of_mem _ g3⟩
          unfold valV at g1 ⊢
          rw [List.find?_cons_of_neg (by rw [hk.1]; simpa using q)]
          exact g1
theorem ThAt.get {K : PySem.W.Frag} {H : Hp} {d : Addr} {es : List (Int × PyData)} {kvs : List (Key × V)} (x : ThAt K H d es kvs) {b : Int} (m : b ∈ es.map (·.1)) :
    ∃ (p : Addr) (its : List V), DGet H d (.int b) (some (.ref p)) ∧ SqT K H p its ∧ atI its 0 = some (.str (word es b)) ∧ Dp K H (.ref p) (thg es b) ∧ Th b (thg es b) := by
  obtain ⟨v, h1, h2, h3⟩ := th_find b es kvs x.ks x.vs m
  have t : Th b (thg es b) := x.th _ h3
  obtain ⟨wd, r, ed⟩ := t.ex
  have h2' := h2
  have e3 : word es b = wd := by
    unfold word
    rw [ed]
    rfl
  rw [ed] at h2'
  cases h2' with
  | @tup a its ds hs ha =>
    refine ⟨a, its, ?_, hs, ?_, by rw [ed]; exact .tup hs ha, t⟩
    · have q := DGet.k (k := Sum.inl b) x.at_
      rw [h1] at q
      exact q
    · rw [e3]
      cases ha with
      | cons q1 q2 =>
        cases q1
        exact atI_nat (j := 0) rfl
theorem putK_end {kvs : List (Key × V)} {k : Key} {v : V} (h : ∀ p ∈ kvs, p.1 ≠ k) : putK kvs k v = kvs ++ [(k, v)] := by
  unfold putK
  rw [if_neg]
  intro q
  obtain ⟨p, hp, e⟩ := List.any_eq_true.mp q
  exact h p hp (of_decide_eq_true e)
theorem decS {x y : Str} : decide (V.str x = V.str y) = decide (x = y) := by
  by_cases q : x = y
  · rw [q]; simp
  · rw [decide_eq_false q, decide_eq_false (fun z => q (V.str.inj z))]
theorem ThAt.same {K : PySem.W.Frag} {H H' : Hp} {d : Addr} {es : List (Int × PyData)} {kvs : List (Key × V)} (x : ThAt K H d es kvs) (s : Same H H') : ThAt K H' d es kvs :=
  ⟨s _ _ x.at_, x.ks, dps_same s _ _ x.vs, x.th⟩
theorem flatDs_of : ∀ ds : List PyData, (∀ d ∈ ds, flatD d = true) → flatDs ds = true
  | [], _ => rfl
  | d :: ds, h => by simp [flatDs, h d List.mem_cons_self, flatDs_of ds fun x hx => h x (List.mem_cons_of_mem _ hx)]
theorem ThAt.fl {K : PySem.W.Frag} {H : Hp} {d : Addr} {es : List (Int × PyData)} {kvs : List (Key × V)} (x : ThAt K H d es kvs) : flatDs (es.map (·.2)) = true :=
  flatDs_of _ fun z hz => by
    obtain ⟨e, he, rfl⟩ := List.mem_map.mp hz
    exact (x.th e he).fl
theorem ThAt.kp {M : Addr → Prop} {K : PySem.W.Frag} {H H' : Hp} {d : Addr} {es : List (Int × PyData)} {kvs : List (Key × V)} (x : ThAt K H d es kvs) (k : Kp M H H') (n : ¬ M d) : ThAt K H' d es kvs :=
  ⟨k.st _ _ n x.at_, x.ks, dps_keep (fun _ _ h => k.tup h) _ _ x.fl x.vs, x.th⟩
theorem wt_int {i : Int} (h : i.natAbs < 10 ^ 12) : PyData.weight (.int i) ≤ 64 := by
  simp only [PyData.weight]
  split
  · omega
  · rename_i q
    have q' : i.natAbs ≠ 0 := by
      intro z
      apply q
      simp
      omega
    have := (Nat.log2_lt q').mpr (show i.natAbs < 2 ^ 63 from Nat.lt_of_lt_of_le h (by decide))
    omega
theorem ThAt.snoc {K : PySem.W.Frag} {H : Hp} {d : Addr} {es : List (Int × PyData)} {kvs : List (Key × V)} (x : ThAt K H d es kvs) {b : Int} {v : V} {t : PyData} (n : b ∉ es.map (·.1)) (hv : Dp K H v t) (ht : Th b t) :
    ThAt K (upd H d (.dK (putK kvs (Sum.inl b) v))) d (es ++ [(b, t)]) (putK kvs (Sum.inl b) v) := by
  have e1 : putK kvs (Sum.inl b) v = kvs ++ [(Sum.inl b, v)] := putK_end fun p hp q => n (by
    have : p.1 ∈ kvs.map (·.1) := List.mem_map.mpr ⟨p, hp, rfl⟩
    rw [x.ks] at this
    obtain ⟨e, he, e2⟩ := List.mem_map.mp this
    rw [q] at e2
    exact List.mem_map.mpr ⟨e, he, Sum.inl.inj e2⟩)
  have keep : ∀ a xs, SqT K H a xs → SqT K (upd H d (.dK (putK kvs (Sum.inl b) v))) a xs := fun a xs h => by
    rcases h with (h | ⟨o, h⟩) | h
    · exact .inl (.inl (by rw [upd_ne (ne_of h x.at_ (by intro z; cases z))]; exact h))
    · exact .inl (.inr ⟨o, by rw [upd_ne (ne_of h x.at_ (by intro z; cases z))]; exact h⟩)
    · exact .inr h
  refine ⟨upd_same, ?_, ?_, ?_⟩
  · rw [e1, List.map_append, List.map_append, x.ks]
    rfl
  · have h1 := dps_keep keep _ _ x.fl x.vs
    have h2 := dp_keep keep _ _ ht.fl hv
    rw [show (putK kvs (Sum.inl b) v).map (·.2) = kvs.map (·.2) ++ [v] by rw [e1, List.map_append]; rfl, List.map_append]
    exact DpAll.snoc h2 h1
  · intro e he
    rcases List.mem_append.mp he with he | he
    · exact x.th e he
    · cases List.mem_singleton.mp he
      exact ht
theorem Kp.mut {M : Addr → Prop} {H H' : Hp} {d : Addr} {o : HO} (k : Kp M H H') (hd : H d = Option.none) : Kp M H (upd H' d o) :=
  ⟨fun a u n e => by
    rw [upd_ne (ne_of_none e hd)]
    exact k.st a u n e, k.l1, fun a m => by
    have q : a ≠ d := fun q => k.m_of hd (q ▸ m)
    rw [upd_ne q]
    exact k.l2 a m⟩
theorem Hand.put {H : Hp} {h c d : Addr} {o : HO} (x : Hand H h c) (n : ∀ xs, H d ≠ some (.lst xs)) : Hand (upd H d o) h c := by
  obtain ⟨cells, i, b, t, e1, e2, q⟩ := x
  refine ⟨cells, i, b, t, ?_, ?_, q⟩
  · rw [upd_ne (fun z => n _ (z ▸ e1))]
    exact e1
  · rw [upd_ne (fun z => n _ (z ▸ e2))]
    exact e2
theorem Hand.puts {H : Hp} {h c d : Addr} {o : HO} (x : Hand H h c) (n1 : d ≠ h) (n2 : d ≠ c) : Hand (upd H d o) h c := by
  obtain ⟨cells, i, b, t, e1, e2, q⟩ := x
  exact ⟨cells, i, b, t, by rw [upd_ne (Ne.symm n1)]; exact e1, by rw [upd_ne (Ne.symm n2)]; exact e2, q⟩
theorem Hand.there {H : Hp} {h c d : Addr} (x : Hand H h c) (n : H d = Option.none) : d ≠ h ∧ d ≠ c := by
  obtain ⟨cells, i, b, t, e1, e2, q⟩ := x
  exact ⟨(ne_of_none e1 n).symm, (ne_of_none e2 n).symm⟩
theorem Hand.ne {H : Hp} {h c d : Addr} (x : Hand H h c) (n : ∀ xs, H d ≠ some (.lst xs)) : d ≠ h := fun z => by
  obtain ⟨xs, e⟩ := x.lst
  exact n xs (z ▸ e)
/-- 1 .. n -/
def births (n : Nat) : List Int := (List.range n).map fun (i : Nat) => (i : Int) + 1
theorem births_succ (n : Nat) : births (n + 1) = births n ++ [(n : Int) + 1] := by
  unfold births
  rw [List.range_succ, List.map_append]
  rfl
theorem births_mem {n : Nat} {b : Int} : b ∈ births n ↔ 1 ≤ b ∧ b ≤ n := by
  unfold births
  rw [List.mem_map]
  constructor
  · rintro ⟨i, hi, rfl⟩
    have := List.mem_range.mp hi
    omega
  · intro q
    exact ⟨(b - 1).toNat, List.mem_range.mpr (by omega), by omega⟩
/-- a new thing is put at the next birth -/
theorem things_put {K : PySem.W.Frag} {H H3 : Hp} {h c d : Addr} {es : List (Int × PyData)} {kvs : List (Key × V)} {i : Nat} {v : V} {t : PyData} (kh : Kh h H H3) (hh : Hand H3 h c) (x : ThAt K H3 d es kvs) (hd : H d = Option.none)
    (hk : es.map (·.1) = births i) (hi : i < 1000) (hv : Dp K H3 v t) (ht : Th (1 + i) t) :
    ∃ H4 es' kvs', DPut H3 d (.int (1 + (i : Nat))) v H4 ∧ Kh h H H4 ∧ Hand H4 h c ∧ ThAt K H4 d es' kvs' ∧ es'.map (·.1) = births (i + 1) := by
  have hb : (1 : Int) + i ∉ es.map (·.1) := by
    rw [hk, births_mem]
    omega
  have hl : kvs.length < sizeLine := by
    have e := congrArg List.length x.ks
    rw [List.length_map, List.length_map] at e
    have e2 := congrArg List.length hk
    rw [List.length_map] at e2
    have e3 : (births i).length = i := by unfold births; rw [List.length_map, List.length_range]
    rw [e, e2, e3]
    exact Nat.lt_trans hi (by decide)
  refine ⟨_, _, _, DPut.k (k := Sum.inl (1 + (i : Int))) x.at_ hl, kh.mut hd, hh.put (fun xs e => by rw [x.at_] at e; cases e), x.snoc hb hv ht, ?_⟩
  rw [List.map_append, hk, births_succ]
  show births i ++ [1 + (i : Int)] = _
  rw [show (1 : Int) + i = i + 1 by omega]
theorem births_len (n : Nat) : (births n).length = n := by
  unfold births
  rw [List.length_map, List.length_range]
end Cm

/-! comprehensions over data -/
namespace Cm
open PySem L2
theorem sqt_put {K : PySem.W.Frag} {H : Hp} {D a : Addr} {xs ys zs : List V} (h : H D = some (.lst ys)) (q : SqT K H a xs) : SqT K (upd H D (.lst zs)) a xs := by
  rcases q with (q | ⟨o, q⟩) | q
  · exact .inl (.inl (by rw [upd_ne (ne_of q h (by intro z; cases z))]; exact q))
  · exact .inl (.inr ⟨o, by rw [upd_ne (ne_of q h (by intro z; cases z))]; exact q⟩)
  · exact .inr q
theorem same_put {H H' : Hp} {D : Addr} {o : HO} (s : Same H H') (h : H D = Option.none) : Same H (upd H' D o) := fun b u e => by
  rw [upd_ne (ne_of_none e h)]
  exact s b u e
theorem sqt_same {K : PySem.W.Frag} {H H' : Hp} {a : Addr} {xs : List V} (s : Same H H') (h : SqT K H a xs) : SqT K H' a xs := by
  rcases h with (h | ⟨o, h⟩) | h
  · exact .inl (.inl (s _ _ h))
  · exact .inl (.inr ⟨o, s _ _ h⟩)
  · exact .inr h
theorem flatDs_all {ds : List PyData} (h : flatDs ds = true) : ∀ d ∈ ds, flatD d = true := by
  induction ds with
  | nil => intro d hd; cases hd
  | cons a r ih =>
    have h' : flatD a = true ∧ flatDs r = true := by simpa [flatDs] using h
    intro d hd
    rcases List.mem_cons.mp hd with rfl | hd
    · exact h'.1
    · exact ih h'.2 d hd
theorem flatDs_app {ds es : List PyData} (h1 : flatDs ds = true) (h2 : flatDs es = true) : flatDs (ds ++ es) = true :=
  flatDs_of _ fun d hd => by
    rcases List.mem_append.mp hd with q | q
    · exact flatDs_all h1 d q
    · exact flatDs_all h2 d q
theorem walk_upto {n : Nat} : Walk (Itr 0 n) n (fun _ => True) (YFn fun i => .int ((i : Nat) : Int)) :=
  ⟨fun _ _ hi _ => hi, fun _ _ => Nat.le_refl _, fun i H x H' _ _ y => ⟨y.1, by
    have := y.2
    rw [Int.zero_add] at this
    exact this⟩⟩
/-! ### the same rules where the context is a comprehension's block: K is said -/
section
variable {X : Cx} {K : PySem.W.Frag}
theorem kx_tup (h : X.K = K := by rfl) : IxR X (rIxT K) := by subst h; exact ix_tup
theorem kx_list (h : X.K = K := by rfl) : IxR X (rIxL K) := by subst h; exact ix_list
theorem kx_seq (h : X.K = K := by rfl) : IxR X (rIx K) := by subst h; exact ix_seq
theorem ko_eqD (hu : X.A.units + 64 < cLine) (h : X.K = K := by rfl) : OpR X (compareOp .Eq) (rEqD K) := by subst h; exact op_eqD hu
theorem ko_neD (hu : X.A.units + 64 < cLine) (h : X.K = K := by rfl) : OpR X (compareOp .NotEq) (rNeD K) := by subst h; exact op_neD hu
theorem ko_in (h : X.K = K := by rfl) : OpR X (compareOp .In) (rIn K false) := by subst h; exact op_in_seq
theorem ko_notIn (h : X.K = K := by rfl) : OpR X (compareOp .NotIn) (rIn K true) := by subst h; exact op_notIn_seq
theorem ko_catA (h : X.K = K := by rfl) : OpR X (binaryOp .Add) (rCatA K) := by subst h; exact op_catA
def rLen (K : PySem.W.Frag) : List V → Hp → VK → Prop := fun xs H Q => ∃ p ys, xs = [.ref p] ∧ (SqL K H p ys ∨ SqT K H p ys) ∧ Q (.int ys.length) H
theorem kc_len (h : X.K = K := by rfl) : CallR X (.builtin "len") (rLen K) := by subst h; exact call_len_seq
end
/-- a comprehension whose items are data without lists: R i is the i-th turn's, none if it is left out -/
theorem lc_data {K : PySem.W.Frag} {J : It} {n : Nat} {G : Hp → Prop} {Y : Nat → Hp → V → Hp → Prop} (wk : Walk J n G Y) {g : TG} {tt : TT} {te : TE} {vs : List Nat} {σ : L2.St} {H1 : Hp} {D : Addr} {Qd : Hp → Prop} (R : Nat → Option PyData)
    (hD : H1 D = Option.none) (hn : n ≤ 100000) (hG : ∀ H, Same H1 H → G H) (hfl : ∀ i < n, ∀ d, R i = some d → flatD d = true)
    (hs : ∀ i x H H', i < n → Same H1 H → Y i H x H' → ∀ (Q1 : VK) (Q0 : Hp → Prop), (∀ v H4 d, R i = some d → Same H H4 → Dp K H4 v d → Q1 v H4) → (∀ H3, R i = none → Same H H3 → Q0 H3) →
      g x (wipe σ vs) H' fun σ2 H2 => wipe σ2 vs = wipe σ vs ∧ tt σ2 H2 fun b H3 => if b = true then te σ2 H3 Q1 else Q0 H3)
    (hd : ∀ H acc, Same H1 H → H D = some (.lst acc) → DpAll K H acc ((List.range n).filterMap R) → Qd H) :
    ∃ W : Nat → Nat → Hp → Prop, (∃ m, W 0 m (upd H1 D (.lst []))) ∧ ∀ i m H, W i m H →
      (J.stop i H ∧ Qd H) ∨ (J.go i H ∧ ∃ Nx : Hp → Prop, (∀ H', Nx H' → ∃ m', m' < m ∧ W (i + 1) m' H') ∧ ∀ x H', J.yld i H x H' → g x (wipe σ vs) H' fun σ2 H2 => wipe σ2 vs = wipe σ vs ∧ tt σ2 H2 fun b H3 =>
        if b = true then te σ2 H3 fun y H4 => ∃ acc, H4 D = some (.lst acc) ∧ acc.length < sizeLine ∧ Nx (upd H4 D (.lst (acc ++ [y]))) else Nx H3) := by
  have fl : ∀ i ≤ n, flatDs ((List.range i).filterMap R) = true := fun i hi => flatDs_of _ fun d hd => by
    obtain ⟨j, hj, e⟩ := List.mem_filterMap.mp hd
    exact hfl j (by have := List.mem_range.mp hj; omega) d e
  refine lc_it wk (fun i H => ∃ acc, Same H1 H ∧ H D = some (.lst acc) ∧ DpAll K H acc ((List.range i).filterMap R) ∧ acc.length ≤ i) ⟨[], same_new hD, upd_same, .nil, Nat.le_refl _⟩ (fun i H _ z => ?_) ?_ ?_
  · obtain ⟨acc, s, _⟩ := z
    exact hG H s
  · rintro i x H H' hi ⟨acc, s, hacc, ha, hl⟩ y
    refine hs i x H H' hi s y _ _ (fun v H4 d e s4 hv => ?_) (fun H3 e s3 => ?_)
    · have hD4 := s4 _ _ hacc
      refine ⟨acc, hD4, Nat.lt_of_le_of_lt hl (Nat.lt_of_lt_of_le (show i < 100000 by omega) (by decide)), acc ++ [v], same_put (s.trans s4) hD, upd_same, ?_, by rw [List.length_append]; exact Nat.succ_le_succ hl⟩
      rw [List.range_succ, List.filterMap_append]
      have e1 : ([i].filterMap R) = [d] := by simp [e]
      rw [e1]
      exact DpAll.snoc (dp_keep (fun _ _ q => sqt_put hD4 q) _ _ (hfl i hi d e) hv) (dps_keep (fun _ _ q => sqt_put hD4 q) _ _ (fl i (by omega)) (dps_same s4 _ _ ha))
    · refine ⟨acc, s.trans s3, s3 _ _ hacc, ?_, by omega⟩
      rw [List.range_succ, List.filterMap_append]
      have e1 : ([i].filterMap R) = [] := by simp [e]
      rw [e1, List.append_nil]
      exact dps_same s3 _ _ ha
  · rintro H ⟨acc, s, hacc, ha, _⟩
    exact hd H acc s hacc ha
/-- a comprehension that draws: each item is data that is good -/
theorem lc_draw {K : PySem.W.Frag} {M : Addr → Prop} {J : It} {n : Nat} {G : Hp → Prop} {Y : Nat → Hp → V → Hp → Prop} (wk : Walk J n G Y) {g : TG} {tt : TT} {te : TE} {vs : List Nat} {σ : L2.St} {H1 : Hp} {D : Addr} {Qd : Hp → Prop}
    (I : Hp → Prop) (Gd : PyData → Prop) (hM : ∀ a, M a → ∃ xs, H1 a = some (.lst xs)) (h0 : I (upd H1 D (.lst []))) (hI : ∀ H ys, Kp M H1 H → I H → I (upd H D (.lst ys)))
    (hD : H1 D = Option.none) (hn : n ≤ 100000) (hG : ∀ H, Kp M H1 H → I H → G H) (hfl : ∀ d, Gd d → flatD d = true)
    (hs : ∀ i x H H', i < n → Kp M H1 H → I H → Y i H x H' → ∀ (Q1 : VK) (Q0 : Hp → Prop), (∀ v H4 d, Gd d → Kp M H H4 → I H4 → Dp K H4 v d → Q1 v H4) → (∀ H3, Kp M H H3 → I H3 → Q0 H3) →
      g x (wipe σ vs) H' fun σ2 H2 => wipe σ2 vs = wipe σ vs ∧ tt σ2 H2 fun b H3 => if b = true then te σ2 H3 Q1 else Q0 H3)
    (hd : ∀ H acc ds, Kp M H1 H → I H → H D = some (.lst acc) → DpAll K H acc ds → (∀ d ∈ ds, Gd d) → ds.length ≤ n → Qd H) :
    ∃ W : Nat → Nat → Hp → Prop, (∃ m, W 0 m (upd H1 D (.lst []))) ∧ ∀ i m H, W i m H →
      (J.stop i H ∧ Qd H) ∨ (J.go i H ∧ ∃ Nx : Hp → Prop, (∀ H', Nx H' → ∃ m', m' < m ∧ W (i + 1) m' H') ∧ ∀ x H', J.yld i H x H' → g x (wipe σ vs) H' fun σ2 H2 => wipe σ2 vs = wipe σ vs ∧ tt σ2 H2 fun b H3 =>
        if b = true then te σ2 H3 fun y H4 => ∃ acc, H4 D = some (.lst acc) ∧ acc.length < sizeLine ∧ Nx (upd H4 D (.lst (acc ++ [y]))) else Nx H3) := by
  have nM : ¬ M D := fun m => by
    obtain ⟨xs, e⟩ := hM D m
    rw [hD] at e
    cases e
  refine lc_it wk (fun i H => ∃ acc ds, Kp M H1 H ∧ I H ∧ H D = some (.lst acc) ∧ DpAll K H acc ds ∧ (∀ d ∈ ds, Gd d) ∧ ds.length ≤ i) ⟨[], [], Kp.new hM hD, h0, upd_same, .nil, (by intro d hd; cases hd), Nat.le_refl _⟩ (fun i H _ z => ?_) ?_ ?_
  · obtain ⟨acc, ds, s, iH, _⟩ := z
    exact hG H s iH
  · rintro i x H H' hi ⟨acc, ds, s, iH, hacc, ha, hg, hl⟩ y
    have fl : flatDs ds = true := flatDs_of _ fun d hd => hfl d (hg d hd)
    refine hs i x H H' hi s iH y _ _ (fun v H4 d e s4 i4 hv => ?_) (fun H3 s3 i3 => ?_)
    · have hD4 := s4.st _ _ nM hacc
      refine ⟨acc, hD4, ?_, acc ++ [v], ds ++ [d], (s.trans s4).mut hD, hI _ _ (s.trans s4) i4, upd_same, ?_, ?_, by rw [List.length_append]; exact Nat.succ_le_succ hl⟩
      · rw [DpAll.len ha]
        exact Nat.lt_of_le_of_lt hl (Nat.lt_of_lt_of_le (show i < 100000 by omega) (by decide))
      · exact DpAll.snoc (dp_keep (fun _ _ q => sqt_put hD4 q) _ _ (hfl d e) hv) (dps_keep (fun _ _ q => sqt_put hD4 q) _ _ fl (dps_keep (fun _ _ q => s4.tup q) _ _ fl ha))
      · intro d' hd'
        rcases List.mem_append.mp hd' with q | q
        · exact hg d' q
        · cases List.mem_singleton.mp q
          exact e
    · exact ⟨acc, ds, s.trans s3, i3, s3.st _ _ nM hacc, dps_keep (fun _ _ q => s3.tup q) _ _ fl ha, hg, by omega⟩
  · rintro H ⟨acc, ds, s, iH, hacc, ha, hg, hl⟩
    exact hd H acc ds s iH hacc ha hg hl
/-! ### data that repr takes -/
structure Sm (D W : Nat) (d : PyData) : Prop where
  ok : okD d = true
  dp : d.depth ≤ D
  wt : d.weight ≤ W
theorem Sm.mono {D W D' W' : Nat} {d : PyData} (x : Sm D W d) (h1 : D ≤ D') (h2 : W ≤ W') : Sm D' W' d := ⟨x.ok, Nat.le_trans x.dp h1, Nat.le_trans x.wt h2⟩
theorem sm_int {i : Int} (h : i.natAbs < 10 ^ 12) : Sm 0 64 (.int i) := ⟨by simp only [okD]; exact decide_eq_true h, by simp [PyData.depth], wt_int h⟩
theorem sm_all {D W : Nat} : ∀ {ds : List PyData}, (∀ d ∈ ds, Sm D W d) → okDs ds = true ∧ PyData.depthAll ds ≤ D ∧ PyData.weightAll ds ≤ ds.length * (W + 2)
  | [], _ => ⟨rfl, by simp [PyData.depthAll], by simp [PyData.weightAll]⟩
  | d :: ds, h => by
    have a := h d List.mem_cons_self
    obtain ⟨b1, b2, b3⟩ := sm_all (ds := ds) fun x hx => h x (List.mem_cons_of_mem _ hx)
    refine ⟨by simp [okDs, a.ok, b1], ?_, ?_⟩
    · have := a.dp
      simp only [PyData.depthAll]
      omega
    · have := a.wt
      simp only [PyData.weightAll, List.length_cons, Nat.add_mul]
      omega
theorem Sm.tuple {D W m : Nat} {ds : List PyData} (h : ∀ d ∈ ds, Sm D W d) (hm : ds.length ≤ m) : Sm (D + 1) (m * (W + 2)) (.tuple ds) := by
  obtain ⟨a, b, c⟩ := sm_all h
  refine ⟨by simpa [okD] using a, ?_, ?_⟩
  · simp only [PyData.depth]
    omega
  · simp only [PyData.weight]
    exact Nat.le_trans c (Nat.mul_le_mul_right _ hm)
theorem Sm.rep {K : PySem.W.Frag} {H : Hp} {x : V} {D W : Nat} {d : PyData} {Q : VK} (s : Sm D W d) (h1 : D ≤ 60) (h2 : W ≤ 2 ^ 20) (hd : Rp K H x d) (q : Q (.str d.shown) H) : rRepr K [x] H Q :=
  ⟨x, d, rfl, hd, s.ok, Nat.le_trans s.dp h1, Nat.le_trans s.wt h2, q⟩
theorem sm_kv {D W : Nat} : ∀ {es : List (Int × PyData)}, (∀ e ∈ es, e.1.natAbs < 10 ^ 12 ∧ Sm D W e.2) → okDk (es.map fun e => (PyData.int e.1, e.2)) = true ∧ PyData.depthKv (es.map fun e => (PyData.int e.1, e.2)) ≤ D ∧ PyData.weightKv (es.map fun e => (PyData.int e.1, e.2)) ≤ es.length * (W + 70)
  | [], _ => ⟨rfl, by simp [PyData.depthKv], by simp [PyData.weightKv]⟩
  | e :: es, h => by
    obtain ⟨a1, a⟩ := h e List.mem_cons_self
    obtain ⟨b1, b2, b3⟩ := sm_kv (es := es) fun x hx => h x (List.mem_cons_of_mem _ hx)
    have i := sm_int a1
    refine ⟨by simp [okDk, a.ok, b1, i.ok], ?_, ?_⟩
    · have := a.dp
      have := i.dp
      simp only [List.map_cons, PyData.depthKv]
      omega
    · have := a.wt
      have := i.wt
      simp only [List.map_cons, PyData.weightKv, List.length_cons, Nat.add_mul] at this ⊢
      omega
/-- what repr is asked of -/
def Rok (K : PySem.W.Frag) (H : Hp) (x : V) (d : PyData) : Prop := Rp K H x d ∧ okD d = true ∧ d.depth ≤ 60 ∧ d.weight ≤ 2 ^ 20
theorem Sm.rok {K : PySem.W.Frag} {H : Hp} {x : V} {D W : Nat} {d : PyData} (s : Sm D W d) (h1 : D ≤ 60) (h2 : W ≤ 2 ^ 20) (hd : Rp K H x d) : Rok K H x d :=
  ⟨hd, s.ok, Nat.le_trans s.dp h1, Nat.le_trans s.wt h2⟩
/-- the whole dict of things -/
theorem ThAt.rok {K : PySem.W.Frag} {H : Hp} {d : Addr} {es : List (Int × PyData)} {kvs : List (Key × V)} (x : ThAt K H d es kvs) {n : Nat} (hk : es.map (·.1) = births n) (hn : n ≤ 100) : Rok K H (.ref d) (PyData.dict (es.map fun e => (PyData.int e.1, e.2))) := by
  obtain ⟨a, b, c⟩ := sm_kv (D := 8) (W := 4000) (es := es) fun e he => by
    have m : e.1 ∈ births n := by rw [← hk]; exact List.mem_map.mpr ⟨e, he, rfl⟩
    have := births_mem.mp m
    exact ⟨by omega, ⟨(x.th e he).ok, (x.th e he).dp, (x.th e he).wt⟩⟩
  have hl : es.length = n := by
    have e := congrArg List.length hk
    rw [List.length_map, births_len] at e
    exact e
  refine ⟨.inr ⟨d, kvs, es, rfl, x.at_, x.ks, x.vs, x.fl, rfl⟩, by simpa [okD] using a, ?_, ?_⟩
  · simp only [PyData.depth]
    omega
  · simp only [PyData.weight]
    refine Nat.le_trans c ?_
    rw [hl]
    exact Nat.le_trans (Nat.mul_le_mul_right _ hn) (by decide)
end Cm

/-! defs that may ask repr, called by name where nothing is under repr -/
namespace Cm
open PySem L2 PySem.Spec PyProof.Rows
structure ClG (P : Program) (w : World) (K : PySem.W.Frag) (mg : Str → Option Value) (base : Heap) (k : Nat) (x : Str) (sp : Sp) : Prop where
  ex : ∃ (f : Addr) (fd : FuncData) (ps : List Str), (∀ vs H Q E, sp vs H Q E → vs.length = ps.length) ∧ LawAt P w K mg base k f fd ps sp ∧ mg x = some (.ref f) ∧ PySem.W.keepIn K (.ref f) = true ∧ Binds K fd ps []
section
variable {P : Program} {w : World} {K : PySem.W.Frag} {mg : Str → Option Value} {base : Heap}
theorem clG_of {x : Str} {st : Stmt} {N ps : List Str} {k : Nat} {sp : Sp} (T : At K mg x st ps) (S : FnScope N ps (defScope st))
    (len : ∀ vs H Q E, sp vs H Q E → vs.length = ps.length)
    (hb : ∀ (f : Addr) (cdv : Value) (A : Around) (outer : List Env) (s : Shared) (H : Hp) (vs : List V) (Q : VK) (E : XK), (A.deeper (envOfC x (defScope st) s.heap.objs.size f cdv)).guards = some [] →
      Room k (A.deeper (envOfC x (defScope st) s.heap.objs.size f cdv)) → sp vs H Q E →
      ∃ t, PSs (cxOf CX0 P w K mg base N x (defScope st) f cdv A outer s H E).nox (defBody st) t ∧ t { nx := fun _ H' => Q .non H', rt := Q } (start N vs) H) :
    ClG P w K mg base (k + 1) x sp := by
  obtain ⟨f, fd, F, hm, b⟩ := T.ex
  exact ⟨f, fd, ps, len, lawAt_of F S len fun cdv A outer s H vs Q E hg => hb f cdv A outer s H vs Q E hg, hm, F.kp, b⟩
end
section
variable {X : Cx} {j k : Nat} {x : Str} {sp : Sp} {e : Expr} {es : List Expr} {t : TA} {p pos : Pos}
theorem pe_cG (c : ClG X.prog X.w X.K X.mg X.base k x sp) (hgd : X.A.guards = some []) (hr : Room j X.A) (hk : k ≤ j) (hg : Gl X x) (ha : PA X (e :: es) t)
    (hdb : (x == ("__debug__" : Str)) = false := by decide) (he : starEach (e :: es) X.env = (false, eval e X.env) :: starEach es X.env := by rfl)
    (hpl : (backTo pos (starEach es X.env)).any (·.1) = false := by rfl) : PE X (.Call (.Name x p) (e :: es) [] pos) (tCall sp [] E0 t) := by
  obtain ⟨f, fd, ps, len, F, hm, kp, b⟩ := c.ex
  refine ⟨fun pins s σ H Q I h => ?_⟩
  refine wpAny_Call_Name_kw (ld_glob I hg hm ?_ hdb)
  refine PySem.W.callWith_K (h₀ := X.base) I.ok.mod.kin kp (thn (ha.run pos pins s σ H _ I h) fun us s1 ⟨vs, H1, I1, r, q⟩ => ⟨I1.kIn, ?_⟩) he hpl
  have q' : sp vs H1 Q E0 := by
    have q0 : sp (vs ++ []) H1 Q E0 := q
    rwa [List.append_nil] at q0
  have hl : us.length = ps.length := by rw [← r.length]; exact len _ _ _ _ q'
  have hb := b s1 us I1.kIn (by rw [List.append_nil]; exact hl)
  rw [List.append_nil] at hb
  refine wpAny_call (codeAny_mono (F X.A X.stack s1 H1 ⟨us, []⟩ us vs Q E0 hgd (hr.mono hk) I1.env0 hb r q') fun r s' hq => ?_)
  cases r with
  | error e => exact pass0 pins σ H1 s1 e s' I1 hq
  | ok fl =>
    cases fl with
    | ret u => exact I1.after hq
    | next => exact False.elim hq
    | brk => exact False.elim hq
    | cont => exact False.elim hq
end
/-! ### a walk over a list or a tuple -/
def iSeq (K : PySem.W.Frag) (tl : TE) : TI := fun σ H R => tl σ H fun x H1 => ∃ a, x = .ref a ∧ ((∃ xs, SqL K H1 a xs) ∧ R (Itl K a) H1 ∨ (∃ xs, SqT K H1 a xs) ∧ R (Itt K a) H1)
theorem pi_seq {X : Cx} {tg l : Expr} {tl : TE} (hl : PE X l tl) : PI X tg l (iSeq X.K tl) := by
  refine ⟨fun pins s σ H R I h => ?_⟩
  refine thn (hl.run pins s σ H _ I h) fun v s1 ⟨x, H1, I1, r1, q1⟩ => ?_
  obtain ⟨a, rfl, q1⟩ := q1
  cases r1
  have fp : ∀ b ∈ [s1.heap.objs.size], b = s1.heap.objs.size := fun b hb => by simpa using hb
  rcases q1 with ⟨⟨xs, hq⟩, q⟩ | ⟨⟨xs, hq⟩, q⟩
  · obtain ⟨its, rv, p, hz⟩ := I1.list hq
    refine wpAny_pyIter_list p.isList ?_
    refine ⟨_, _, _, _, H1, rfl, I1.kept (t' := s1.toks) fun b o e => Heap.get?_push_of_some _ e, turn_list a _, ⟨_, Heap.get?_push_size _ rfl, rfl, rfl⟩, fun b hb => ?_, q⟩
    cases fp b hb
    exact I1.fpOk (Nat.le_refl _) (I1.hok.fresh (Nat.le_refl _))
  · obtain ⟨its, rv, p, hz⟩ := I1.tuple hq
    refine wpAny_pyIter_tuple (show s1.heap.IsTuple a its.toArray from p) ?_
    refine ⟨_, _, _, _, H1, rfl, I1.kept (t' := s1.toks) fun b o e => Heap.get?_push_of_some _ e, turn_tuple a _, ⟨_, Heap.get?_push_size _ rfl, rfl, rfl⟩, fun b hb => ?_, q⟩
    cases fp b hb
    exact I1.fpOk (Nat.le_refl _) (I1.hok.fresh (Nat.le_refl _))
theorem ks_tupA {X : Cx} {K : PySem.W.Frag} (h : X.K = K := by rfl) : SlR X (rSlA K) := by subst h; exact sl_tupA
theorem ne_same (x : V) : (!decide (x = x)) = false := by simp
theorem tyx_tup {K : PySem.W.Frag} {H : Hp} {a : Addr} {xs : List V} (h : SqT K H a xs) : TyX K H (.ref a) (.type "tuple") := by
  rcases h with (h | ⟨o, h⟩) | ⟨o, its, n, e, c, _⟩
  · exact .base (.tup h)
  · exact .fTuple h
  · exact .kTuple e c
theorem kit_tup {K : PySem.W.Frag} : PySem.W.kitOne K (.type "tuple") (.type "tuple") = some true := by rfl
end Cm

namespace K06
open PySem L2 Cm
def top (i : Nat) : Stmt := PySem.Challenge.pw_goonagain_k06_what_a_standing_reaches.main.body.getD i (.Pass ⟨0, 0, 0, 0⟩)
structure Txt (mg : Str → Option Value) : Prop where
  abs : mg "abs" = none
  dict : mg "dict" = none
  enumerate : mg "enumerate" = none
  int : mg "int" = none
  isinstance : mg "isinstance" = none
  len : mg "len" = none
  list : mg "list" = none
  range : mg "range" = none
  repr : mg "repr" = none
  sorted : mg "sorted" = none
  str : mg "str" = none
  tuple : mg "tuple" = none
section
variable {P : Program} {w : World} {K : PySem.W.Frag} {mg : Str → Option Value} {base : Heap}
-- mix
abbrev s_l_mix : Stmt := top 16
abbrev N_l_mix : List Str := ["_law_number", "_law_turn", "_law_once", "_law_twice"]
theorem sc_l_mix : FnScope N_l_mix ["_law_number", "_law_turn"] (defScope s_l_mix) := ⟨rfl, rfl, rfl, by decide +kernel, rfl, by decide +kernel, by decide +kernel⟩
theorem ok_mix (T : Txt mg) (D : At K mg "_law_mix" s_l_mix ["_law_number", "_law_turn"]) : Cl P w K mg base 1 "_law_mix" spMix := by
  refine cl_of D sc_l_mix (fun vs H Q E h => ?_) fun f cdv A outer s H vs Q E hr h => ?_
  · obtain ⟨a, b, rfl, _⟩ := h
    rfl
  · obtain ⟨a, b, rfl, k⟩ := h
    refine ⟨_, (pss_cons (ps_set (i := 2) sc_l_mix.nd rfl (Or.inl rfl) (pe_op op_mod (pe_callTy call_int1 (by rfl) T.int (by decide +kernel) (pa_cons (pe_op op_add (pe_op op_add (pe_op op_mul (pv 0) pe_int) (pe_op op_mul (pv 1) pe_int)) pe_int) pa_nil)) pe_int))
      (pss_cons (ps_set (i := 3) sc_l_mix.nd rfl (Or.inl rfl) (pe_op op_mod (pe_callTy call_int1 (by rfl) T.int (by decide +kernel) (pa_cons (pe_op op_add (pe_op op_add (pe_op op_mul (pv 2) (pv 2)) (pe_op op_mul (pe_op op_fdiv (pv 2) pe_int) pe_int)) (pe_op op_mul (pv 1) pe_int)) pa_nil)) pe_int))
      (pss_one (ps_ret (pe_op op_fdiv (pe_op op_mod (pe_callTy call_int1 (by rfl) T.int (by decide +kernel) (pa_cons (pe_op op_add (pe_op op_fdiv (pe_op op_mul (pv 3) (pv 3)) pe_int) (pv 2)) pa_nil)) pe_int) pe_int))))), ?_⟩
    refine ⟨_, rfl, _, _, rfl, rfl, .inr (by decide), ?_⟩
    refine ⟨_, rfl, _, _, rfl, rfl, .inr (by decide), ?_⟩
    refine ⟨_, _, rfl, rfl, _, _, rfl, rfl, .inl ⟨_, rfl, _, _, rfl, rfl, (by show (0 : Int) < _; decide), ?_⟩⟩
    generalize hx : (a * 48271 + b * 16807 + 11) % 2147483647 = x
    have x0 : 0 ≤ x := by omega
    have x1 : x < 2147483647 := by omega
    clear hx
    refine ⟨_, rfl, _, rfl, _, _, rfl, rfl, .inl ⟨by omega, by omega⟩, ?_⟩
    refine ⟨_, rfl, _, _, rfl, rfl, ⟨by decide, by decide⟩, _, _, rfl, rfl, .inr (by decide), ?_⟩
    refine ⟨_, _, rfl, rfl, _, rfl, _, _, rfl, rfl, .inr (by decide), _, _, rfl, rfl, .inl ⟨_, rfl, _, _, rfl, rfl, (by show (0 : Int) < _; decide), ?_⟩⟩
    generalize hy : (x * x + x / 127 * 40692 + b * 69621) % 2147483399 = y
    have y0 : 0 ≤ y := by omega
    have y1 : y < 2147483399 := by omega
    clear hy
    refine ⟨_, rfl, _, rfl, _, _, rfl, rfl, .inl ⟨by omega, by omega⟩, _, _, rfl, rfl, ⟨by decide, by decide⟩, ?_⟩
    refine ⟨_, rfl, _, _, rfl, rfl, .inl ⟨_, rfl, _, _, rfl, rfl, (by show (0 : Int) < _; decide), _, _, rfl, rfl, ⟨by decide, by decide⟩, ?_⟩⟩
    exact k _
-- hand
abbrev s_l_hand : Stmt := top 17
abbrev N_l_hand : List Str := ["_law_script", "_law_total", "_law_k", "_law_cell"]
theorem sc_l_hand : FnScope N_l_hand ["_law_script"] (defScope s_l_hand) := ⟨rfl, rfl, rfl, by decide +kernel, rfl, by decide +kernel, by decide +kernel⟩
theorem ok_hand (T : Txt mg) (D : At K mg "_law_hand" s_l_hand ["_law_script"]) : Cl P w K mg base 1 "_law_hand" (spHand K) := by
  refine cl_of D sc_l_hand (fun vs H Q E h => ?_) fun f cdv A outer s H vs Q E hr h => ?_
  · obtain ⟨a, ns, rfl, _⟩ := h
    rfl
  · obtain ⟨a, ns, rfl, hS, hlen, k⟩ := h
    refine ⟨_, (pss_cons (ps_set (i := 1) sc_l_hand.nd rfl (Or.inl rfl) pe_int)
      (pss_cons (ps_for PassesOwn.never rfl (pi_enum (by rfl) T.enumerate (pa_cons (pv 0) pa_nil)) (pg_tup (by rfl) (pgs_cons (pg_name (i := 2) sc_l_hand.nd rfl (Or.inl rfl)) (pgs_cons (pg_name (i := 3) sc_l_hand.nd rfl (Or.inl rfl)) pgs_nil)))
        (pss_one (ps_set (i := 1) sc_l_hand.nd rfl (Or.inl rfl) (pe_op op_mod (pe_callTy call_int1 (by rfl) T.int (by decide +kernel) (pa_cons (pe_op op_add (pe_op op_mul (pv 1) pe_int) (pe_op op_mul (pe_callTy call_int1 (by rfl) T.int (by decide +kernel) (pa_cons (pv 3) pa_nil)) (pe_op op_add (pv 2) pe_int))) pa_nil)) pe_int))))
      (pss_one (ps_ret (pe_lst (pa_cons (pe_lc (own := [("_law_cell", 3)]) rfl sc_l_hand.nd (pi_list (pv 0)) (blkOk_by (N := N_l_hand) (sc := defScope s_l_hand) (by decide +kernel))
      (fun _ _ _ _ _ => (pg_name (i := 3) sc_l_hand.nd rfl (Or.inl rfl)))
      (fun _ _ _ _ _ => pts_nil)
      (fun _ _ _ _ _ => (pe_callB call_abs (by rfl) T.abs (by decide +kernel) (pa_cons (pe_callTy call_int1 (by rfl) T.int (by decide +kernel) (pa_cons (pv 3) pa_nil)) pa_nil)))) (pa_cons pe_int (pa_cons pe_int (pa_cons (pv 1) pa_nil))))))))), ?_⟩
    refine ⟨_, rfl, a, _, rfl, hS, ?_⟩
    refine for_it (walk_enum (xs := ns.map V.int)) (fun i σ H' => ∃ (t : Int) (v2 v3 : Option V), σ = [some (.ref a), some (.int t), v2, v3] ∧ Same H H') ⟨0, none, none, rfl, Same.refl H⟩ (fun i σ H' _ z => ?_) ?_ ?_
    · obtain ⟨t, v2, v3, rfl, s1⟩ := z
      exact s1.seq hS
    · rintro i x σ H1 H2 hi ⟨t, v2, v3, rfl, s1⟩ ⟨T1, x1, x2, rfl, hT, rfl, e1, e2⟩
      cases e1
      obtain ⟨n, en, rfl⟩ := map_at e2
      refine ⟨T1, _, rfl, .inl (.inl upd_same), rfl, _, _, rfl, _, _, rfl, rfl, ?_⟩
      refine ⟨_, rfl, _, _, rfl, rfl, .inr (by decide), _, rfl, .inl ⟨_, rfl, ?_⟩⟩
      refine ⟨_, rfl, _, _, rfl, rfl, _, _, rfl, rfl, .inr ⟨?_, ?_⟩, ?_⟩
      · rw [List.length_map] at hi
        omega
      · rw [List.length_map] at hi
        omega
      refine ⟨_, _, rfl, rfl, .inl ⟨_, rfl, _, _, rfl, rfl, (by show (0 : Int) < _; decide), ?_⟩⟩
      exact ⟨_, _, _, rfl, s1.trans (same_new hT)⟩
    · rintro σ H1 ⟨t, v2, v3, rfl, s1⟩
      refine ⟨_, rfl, a, rfl, ⟨_, s1.seq hS⟩, fun D hD => ?_⟩
      refine lc_it (walk_list (xs := ns.map V.int)) (fun i H' => ∃ acc : List Int, Same H1 H' ∧ H' D = some (.lst (acc.map V.int)) ∧ acc.length = i) ⟨[], same_new hD, upd_same, rfl⟩ (fun i H' _ z => ?_) ?_ ?_
      · obtain ⟨acc, s2, _⟩ := z
        exact (s1.trans s2).seq hS
      · rintro i x H2 H3 hi ⟨acc, s2, hacc, hl⟩ ⟨rfl, e2⟩
        obtain ⟨n, en, rfl⟩ := map_at e2
        rw [List.length_map] at hi
        refine ⟨rfl, ?_⟩
        refine ⟨_, rfl, .inl ⟨_, rfl, _, rfl, _, hacc, ?_, ?_⟩⟩
        · rw [List.length_map]
          exact Nat.lt_of_lt_of_le (show acc.length < 63 by omega) (by decide)
        · refine ⟨acc ++ [if n < 0 then -n else n], fun b o e => ?_, ?_, ?_⟩
          · have hb : b ≠ D := ne_of_none e hD
            rw [upd_ne hb]
            exact s2 b o e
          · rw [upd_same, List.map_append]
            rfl
          · rw [List.length_append, hl]
            rfl
      · rintro H2 ⟨acc, s2, hacc, hl⟩
        refine ⟨_, rfl, by show 4 ≤ sizeLine; decide, fun p hp => ?_⟩
        rw [List.length_map] at hl
        have npD : D ≠ p := ne_of_none hacc hp
        refine k p D _ ((s1.trans s2).trans (same_new hp)) ((s1.trans s2).free hp) (s1.free hD) ⟨acc, _, _, _, upd_same, ?_, npD, Int.le_refl 0, by omega⟩
        rw [upd_ne npD]
        exact hacc
end
section
variable {P : Program} {w : World} {K : PySem.W.Frag} {mg : Str → Option Value} {base : Heap}
abbrev s_l_draw : Stmt := top 18
abbrev N_l_draw : List Str := ["_law_hand_here", "_law_many", "_law_cell", "_law_rest"]
theorem sc_l_draw : FnScope N_l_draw ["_law_hand_here", "_law_many"] (defScope s_l_draw) := ⟨rfl, rfl, rfl, by decide +kernel, rfl, by decide +kernel, by decide +kernel⟩
theorem ok_draw (T : Txt mg) (c_l_mix : Cl P w K mg base 1 "_law_mix" spMix) (D : At K mg "_law_draw" s_l_draw ["_law_hand_here", "_law_many"]) : Cl P w K mg base 2 "_law_draw" spDraw := by
  refine cl_of D sc_l_draw (fun vs H Q E h => ?_) fun f cdv A outer s H vs Q E hr h => ?_
  · obtain ⟨h, c, m, rfl, _⟩ := h
    rfl
  · obtain ⟨h, c, m, rfl, ⟨cells, i, b, t, e1, e2, nch, hi, hlen⟩, hm0, hm1, k⟩ := h
    refine ⟨_, (pss_mid (ps_if (PW.pt (pw_and (pt_cmpR op_eq (pe_ix ix_list (pv 0) pe_int (fun _ _ => rfl)) pe_int (nomark _)) (pw_and1 (pt_cmpR op_lt (pe_ix ix_list (pv 0) pe_int (fun _ _ => rfl)) (pe_callB call_len_seq (by rfl) T.len (by decide +kernel) (pa_cons (pe_ix ix_list (pv 0) pe_int (fun _ _ => rfl)) pa_nil)) (nomark _)))))
        (pss_cons (ps_set (i := 2) sc_l_draw.nd rfl (Or.inl rfl) (pe_ix ix_list (pe_ix ix_list (pv 0) pe_int (fun _ _ => rfl)) (pe_ix ix_list (pv 0) pe_int (fun _ _ => rfl)) (fun _ _ => rfl)))
        (pss_cons (ps_asg (pe_op op_add (pe_ix ix_list (pv 0) pe_int (fun _ _ => rfl)) pe_int) (pg_sub (pv 0) pe_int set_list))
        (pss_cons (ps_if (pt_cmpR op_lt (pv 2) (pe_op op_pow pe_int pe_int) (nomark _))
          (pss_one (ps_ret (pe_op op_mod (pe_callTy call_int1 (by rfl) T.int (by decide +kernel) (pa_cons (pe_c c_l_mix hr (by decide) (by rfl) (pa_cons (pe_op op_mod (pe_callTy call_int1 (by rfl) T.int (by decide +kernel) (pa_cons (pv 2) pa_nil)) pe_int) (pa_cons (pe_ix ix_list (pv 0) pe_int (fun _ _ => rfl)) pa_nil))) pa_nil)) (pv 1))))
          pss_nil)
        (pss_one (ps_asg (pv 2) (pg_sub (pv 0) pe_int set_list))))))
        pss_nil)
      (pss_cons (ps_if (pt_cmpR op_gt (pe_ix ix_list (pv 0) pe_int (fun _ _ => rfl)) pe_int (nomark _))
        (pss_cons (ps_set (i := 3) sc_l_draw.nd rfl (Or.inl rfl) (pe_ix ix_list (pv 0) pe_int (fun _ _ => rfl)))
        (pss_cons (ps_asg (pe_op op_fdivW (pv 3) (pv 1)) (pg_sub (pv 0) pe_int set_list))
        (pss_one (ps_ret (pe_op op_mod (pe_callTy call_int1 (by rfl) T.int (by decide +kernel) (pa_cons (pv 3) pa_nil)) (pv 1))))))
        pss_nil)
      (pss_cons (ps_asg (pe_op op_mod (pe_callTy call_int1 (by rfl) T.int (by decide +kernel) (pa_cons (pe_op op_add (pe_ix ix_list (pv 0) pe_int (fun _ _ => rfl)) pe_int) pa_nil)) pe_int) (pg_sub (pv 0) pe_int set_list))
      (pss_one (ps_ret (pe_op op_mod (pe_callTy call_int1 (by rfl) T.int (by decide +kernel) (pa_cons (pe_c c_l_mix hr (by decide) (by rfl) (pa_cons (pe_ix ix_list (pv 0) pe_int (fun _ _ => rfl)) (pa_cons (pe_ix ix_list (pv 0) pe_int (fun _ _ => rfl)) pa_nil))) pa_nil)) (pv 1))))))), ?_⟩
    have big : CDivW b m := wide_div (b := 100) hm0 (by omega) (by decide) (by decide)
    have kh0 : ∀ {ys : List V}, Kh h H (upd H h (.lst ys)) := Kp.put (fun a ha => by rw [ha]; exact ⟨_, e1⟩) rfl
    refine ⟨fun σ' H' => ∃ (i b t : Int) (v2 v3 : Option V), σ' = [some (.ref h), some (.int m), v2, v3] ∧ Kh h H H' ∧ H' h = some (.lst [.ref c, .int i, .int b, .int t]) ∧ H' c = some (.lst (cells.map V.int)) ∧ 0 ≤ i, ?_, ?_⟩
    · refine ⟨_, rfl, _, _, _, _, rfl, rfl, .inl (.inl e1), rfl, rfl, _, rfl, ?_⟩
      refine ite2 (fun _ => ?_) (fun _ => ?_)
      · refine ⟨_, rfl, _, _, _, _, rfl, rfl, .inl (.inl e1), rfl, _, rfl, _, _, _, _, rfl, rfl, .inl (.inl e1), rfl, c, _, rfl, .inl (.inl (.inl e2)), _, _, rfl, rfl, _, rfl, ?_⟩
        refine ite2 (fun hlt => ?_) (fun _ => ?_)
        · have hlt' : i < (cells.length : Int) := by
            have := of_decide_eq_true hlt
            rw [List.length_map] at this
            exact this
          obtain ⟨j, rfl⟩ : ∃ j : Nat, i = (j : Int) := ⟨i.toNat, by omega⟩
          have hj : j < cells.length := by omega
          have hat : atI (cells.map V.int) (j : Int) = some (.int cells[j]) := atI_nat (by rw [List.getElem?_map, List.getElem?_eq_getElem hj]; rfl)
          refine ⟨_, rfl, _, _, _, _, rfl, rfl, .inl (.inl e1), rfl, _, rfl, _, _, _, _, rfl, rfl, .inl (.inl e1), rfl, c, _, _, _, rfl, rfl, .inl (.inl e2), hat, ?_⟩
          refine ⟨_, rfl, _, _, _, _, rfl, rfl, .inl (.inl e1), rfl, _, _, rfl, rfl, _, rfl, h, _, _, 1, rfl, rfl, e1, rfl, ?_⟩
          have e2' : upd H h (.lst [.ref c, .int ((j : Int) + 1), .int b, .int t]) c = some (.lst (cells.map V.int)) := by rw [upd_ne nch]; exact e2
          refine ⟨_, rfl, _, _, rfl, rfl, ⟨by decide, by decide, by decide⟩, _, _, rfl, rfl, _, rfl, ?_⟩
          refine ite2 (fun _ => ?_) (fun _ => ?_)
          · refine ⟨_, rfl, .inl ⟨_, rfl, _, _, rfl, rfl, (by show (0 : Int) < _; decide), _, rfl, _, _, _, _, rfl, rfl, .inl (.inl upd_same), rfl, ?_⟩⟩
            refine ⟨_, _, rfl, fun n => .inl ⟨_, rfl, _, rfl, _, _, rfl, rfl, hm0, ?_⟩⟩
            exact k _ _ (Int.emod_nonneg _ (by omega)) (Int.emod_lt_of_pos _ hm0) kh0 ⟨cells, _, _, _, upd_same, e2', nch, by omega, hlen⟩
          · refine ⟨_, rfl, _, rfl, h, _, _, 2, rfl, rfl, upd_same, rfl, ?_⟩
            rw [upd_upd]
            exact ⟨_, _, _, _, _, rfl, kh0, upd_same, by rw [upd_ne nch]; exact e2, by omega⟩
        · exact ⟨i, b, t, _, _, rfl, Kp.refl (fun a ha => by rw [ha]; exact ⟨_, e1⟩), e1, e2, hi⟩
      · exact ⟨i, b, t, _, _, rfl, Kp.refl (fun a ha => by rw [ha]; exact ⟨_, e1⟩), e1, e2, hi⟩
    · rintro σ' H' ⟨i, b, t, v2, v3, rfl, kh, e1, e2, hi⟩
      have kh1 : ∀ {ys : List V}, Kh h H (upd H' h (.lst ys)) := kh.trans (Kp.put (fun a ha => by rw [ha]; exact ⟨_, e1⟩) rfl)
      refine ⟨_, rfl, _, _, _, _, rfl, rfl, .inl (.inl e1), rfl, _, _, rfl, rfl, _, rfl, ?_⟩
      refine ite2 (fun _ => ?_) (fun _ => ?_)
      · refine ⟨_, rfl, _, _, _, _, rfl, rfl, .inl (.inl e1), rfl, _, rfl, _, rfl, _, _, rfl, rfl, big, _, rfl, h, _, _, 2, rfl, rfl, e1, rfl, ?_⟩
        refine ⟨_, rfl, .inl ⟨_, rfl, _, rfl, _, _, rfl, rfl, hm0, ?_⟩⟩
        exact k _ _ (Int.emod_nonneg _ (by omega)) (Int.emod_lt_of_pos _ hm0) kh1 ⟨cells, _, _, _, upd_same, by rw [upd_ne nch]; exact e2, nch, hi, hlen⟩
      · refine ⟨_, rfl, _, _, _, _, rfl, rfl, .inl (.inl e1), rfl, _, _, rfl, rfl, .inl ⟨_, rfl, _, _, rfl, rfl, (by show (0 : Int) < _; decide), _, rfl, h, _, _, 3, rfl, rfl, e1, rfl, ?_⟩⟩
        refine ⟨_, rfl, _, _, _, _, rfl, rfl, .inl (.inl upd_same), rfl, _, rfl, _, _, _, _, rfl, rfl, .inl (.inl upd_same), rfl, ?_⟩
        refine ⟨_, _, rfl, fun n => .inl ⟨_, rfl, _, rfl, _, _, rfl, rfl, hm0, ?_⟩⟩
        exact k _ _ (Int.emod_nonneg _ (by omega)) (Int.emod_lt_of_pos _ hm0) kh1 ⟨cells, _, _, _, upd_same, by rw [upd_ne nch]; exact e2, nch, hi, hlen⟩
end
section
variable {P : Program} {w : World} {K : PySem.W.Frag} {mg : Str → Option Value} {base : Heap}
abbrev s_l_pick : Stmt := top 19
abbrev N_l_pick : List Str := ["_law_hand_here", "_law_things"]
theorem sc_l_pick : FnScope N_l_pick ["_law_hand_here", "_law_things"] (defScope s_l_pick) := ⟨rfl, rfl, rfl, by decide +kernel, rfl, by decide +kernel, by decide +kernel⟩
theorem ok_pick (T : Txt mg) (c_l_draw : Cl P w K mg base 2 "_law_draw" spDraw) (D : At K mg "_law_pick" s_l_pick ["_law_hand_here", "_law_things"]) : Cl P w K mg base 3 "_law_pick" (spPick K) := by
  refine cl_of D sc_l_pick (fun vs H Q E h => ?_) fun f cdv A outer s H vs Q E hr h => ?_
  · obtain ⟨h, c, a, xs, rfl, _⟩ := h
    rfl
  · obtain ⟨h, c, a, xs, rfl, hh, hx, hne, hlen, k⟩ := h
    have hpos : 0 < xs.length := List.length_pos_iff.mpr hne
    refine ⟨_, (pss_one (ps_ret (pe_ix ix_seq (pv 1) (pe_c c_l_draw hr (by decide) (by rfl) (pa_cons (pv 0) (pa_cons (pe_callB call_len_seq (by rfl) T.len (by decide +kernel) (pa_cons (pv 1) pa_nil)) pa_nil))) (fun _ _ => rfl)))), ?_⟩
    refine ⟨_, rfl, _, rfl, _, rfl, a, xs, rfl, ?_, h, c, _, rfl, hh, by omega, Int.lt_of_le_of_lt (show (xs.length : Int) ≤ 1000 by omega) (by decide), fun n H1 h0 h1 kh hh1 => ?_⟩
    · rcases hx with hx | hx
      · exact .inl hx.1
      · exact .inr hx
    · obtain ⟨j, rfl⟩ : ∃ j : Nat, n = (j : Int) := ⟨n.toNat, by omega⟩
      have hj : j < xs.length := by omega
      have hat : atI xs (j : Int) = some xs[j] := atI_nat (List.getElem?_eq_getElem hj)
      rcases hx with ⟨hx, hn⟩ | hx
      · refine .inl ⟨a, xs, _, _, rfl, rfl, ?_, hat, k _ _ (List.getElem_mem hj) kh hh1⟩
        rcases hx with (q | ⟨o, q⟩) | q
        · exact .inl (.inl (kh.st _ _ hn q))
        · exact .inl (.inr ⟨o, kh.st _ _ hn q⟩)
        · exact .inr q
      · exact .inr (.inl ⟨a, xs, _, _, rfl, rfl, kh.tup hx, hat, k _ _ (List.getElem_mem hj) kh hh1⟩)
end
end K06

/-! a for over a list or a tuple, as one -/
namespace Cm
open PySem L2 PySem.Spec PyProof.Rows
theorem for_seq {K : PySem.W.Frag} {tl : TE} {g : TG} {tb : TS} {D : Ends} {σ : L2.St} {H Hb : Hp} {a : Addr} {xs : List V} (ht : ∀ Q : VK, Q (.ref a) H → tl σ H Q) (ha : SqL K Hb a xs ∨ SqT K Hb a xs)
    (Pv : Nat → L2.St → Hp → Prop) (h0 : Pv 0 σ H) (hG : ∀ i σ H', Pv i σ H' → Same Hb H')
    (hs : ∀ i x σ H1, i < xs.length → Pv i σ H1 → xs[i]? = some x → g x σ H1 fun σ2 H2 => tb { D with nx := Pv (i + 1), ct := Pv (i + 1), bk := D.nx } σ2 H2) (hd : ∀ σ H1, Pv xs.length σ H1 → D.nx σ H1) :
    tFor (iSeq K tl) g tb D σ H := by
  refine ht _ ⟨a, rfl, ?_⟩
  rcases ha with ha | ha
  · refine .inl ⟨⟨_, (hG _ _ _ h0).seq ha⟩, for_it (walk_list (xs := xs)) Pv h0 (fun i σ H' hi z => (hG i σ H' z).seq ha) (fun i x σ H1 H2 hi z y => ?_) hd⟩
    obtain ⟨rfl, e⟩ := y
    exact hs i x σ _ hi z e
  · refine .inr ⟨⟨_, sqt_same (hG _ _ _ h0) ha⟩, for_it (walk_tup (xs := xs)) Pv h0 (fun i σ H' hi z => sqt_same (hG i σ H' z) ha) (fun i x σ H1 H2 hi z y => ?_) hd⟩
    obtain ⟨rfl, e⟩ := y
    exact hs i x σ _ hi z e
end Cm

/-! trees of forms: a head and its parts; how they lie in tuples -/
namespace Cm
open PySem L2 PySem.Spec PyProof.Rows
inductive Hd where
  | num (i : Int)
  | name (x : Str)
  | lit (w : Str)
  | one (w x : Str)
  | fn (xs : List Str)
  | bind (w : Str) (xs : List Str)
  | doo
  | call
  | op (o : Str)
  | plain (w : Str)
inductive Tr where
  | mk (h : Hd) (ps : List Tr)
def encs (xs : List Str) : PyData := .tuple (xs.map PyData.str)
def rowD (p : Str × PyData) : PyData := .tuple [.str p.1, p.2]
def encH : Hd → List PyData → PyData
  | .num i, _ => .tuple [.str "number", .int i]
  | .name x, _ => .tuple [.str "name", .str x]
  | .lit w, _ => .tuple [.str w]
  | .one w x, ds => .tuple (.str w :: .str x :: ds)
  | .fn xs, ds => .tuple (.str "fn" :: encs xs :: ds)
  | .bind w xs, ds => .tuple (.str w :: .tuple ((xs.zip ds).map rowD) :: ds.drop xs.length)
  | .doo, ds => .tuple [.str "do", .tuple ds]
  | .call, ds => .tuple (.str "call" :: (ds.take 1 ++ [.tuple (ds.drop 1)]))
  | .op o, ds => .tuple [.str "op", .str o, .tuple ds]
  | .plain w, ds => .tuple (.str w :: ds)
mutual
def Tr.enc : Tr → PyData
  | .mk h ps => encH h (Tr.encL ps)
def Tr.encL : List Tr → List PyData
  | [] => []
  | t :: ts => t.enc :: Tr.encL ts
end
mutual
def Tr.dep : Tr → Nat
  | .mk _ ps => Tr.deps ps + 1
def Tr.deps : List Tr → Nat
  | [] => 0
  | t :: ts => max t.dep (Tr.deps ts)
end
def litW : List Str := ["true", "false", "none", "ask"]
def oneW : List Str := ["set", "keep", "once", "take"]
def bindW : List Str := ["let", "rec"]
def plainW : List Str := ["if", "mark", "wind", "show"]
abbrev sok (x : Str) : Prop := PyData.strOk x = true
def hok : Hd → Nat → Prop
  | .num _, n => n = 0
  | .name x, n => n = 0 ∧ sok x
  | .lit w, n => n = 0 ∧ w ∈ litW
  | .one w x, n => n = 1 ∧ w ∈ oneW ∧ sok x
  | .fn xs, n => n = 1 ∧ xs.length ≤ 100 ∧ ∀ x ∈ xs, sok x
  | .bind w xs, n => n = xs.length + 1 ∧ w ∈ bindW ∧ ∀ x ∈ xs, sok x
  | .doo, _ => True
  | .call, n => 1 ≤ n
  | .op o, _ => sok o
  | .plain w, _ => w ∈ plainW
mutual
def Tr.ok : Tr → Prop
  | .mk h ps => hok h ps.length ∧ ps.length ≤ 11 ∧ Tr.oks ps
def Tr.oks : List Tr → Prop
  | [] => True
  | t :: ts => t.ok ∧ Tr.oks ts
end
theorem encL_map : ∀ ps : List Tr, Tr.encL ps = ps.map Tr.enc
  | [] => rfl
  | t :: ts => by
    show t.enc :: Tr.encL ts = _
    rw [encL_map ts]
    rfl
theorem encL_len (ps : List Tr) : (Tr.encL ps).length = ps.length := by rw [encL_map, List.length_map]
theorem deps_le {n : Nat} : ∀ {ps : List Tr}, Tr.deps ps ≤ n ↔ ∀ t ∈ ps, t.dep ≤ n
  | [] => by simp [Tr.deps]
  | t :: ts => by
    have := deps_le (n := n) (ps := ts)
    show max t.dep (Tr.deps ts) ≤ n ↔ _
    rw [Nat.max_le, this]
    simp
theorem oks_iff : ∀ {ps : List Tr}, Tr.oks ps ↔ ∀ t ∈ ps, t.ok
  | [] => by simp [Tr.oks]
  | t :: ts => by
    show t.ok ∧ Tr.oks ts ↔ _
    rw [oks_iff]
    simp
theorem dep_mk {h : Hd} {ps : List Tr} {n : Nat} : (Tr.mk h ps).dep ≤ n + 1 ↔ ∀ t ∈ ps, t.dep ≤ n := by
  show Tr.deps ps + 1 ≤ n + 1 ↔ _
  rw [← deps_le]
  omega
/-- trees by their depth -/
theorem tr_ind {P : Tr → Prop} (h : ∀ hd ps, (∀ t ∈ ps, P t) → P (.mk hd ps)) (t : Tr) : P t := by
  have key : ∀ n, ∀ t : Tr, t.dep ≤ n → P t := by
    intro n
    induction n with
    | zero =>
      intro t ht
      cases t with
      | mk hd ps => exact absurd ht (by show ¬ (Tr.deps ps + 1 ≤ 0); omega)
    | succ n ih =>
      intro t ht
      cases t with
      | mk hd ps => exact h hd ps fun t m => ih t (dep_mk.mp ht t m)
  exact key t.dep t (Nat.le_refl _)
theorem flat_strs (xs : List Str) : flatDs (xs.map PyData.str) = true := flatDs_of _ fun d hd => by
  obtain ⟨x, _, rfl⟩ := List.mem_map.mp hd
  rfl
theorem flat_encH {h : Hd} {ds : List PyData} (f : flatDs ds = true) : flatD (encH h ds) = true := by
  have fd := flatDs_all f
  cases h with
  | num i => rfl
  | name x => rfl
  | lit w => rfl
  | one w x => show flatDs (_ :: _ :: ds) = true; simpa [flatDs, flatD] using f
  | fn xs => show flatDs (_ :: encs xs :: ds) = true; simp [flatDs, flatD, encs, flat_strs, f]
  | bind w xs =>
    show flatDs (_ :: _ :: ds.drop xs.length) = true
    have h1 : flatDs (ds.drop xs.length) = true := flatDs_of _ fun d hd => fd d (List.mem_of_mem_drop hd)
    have h2 : flatDs ((xs.zip ds).map rowD) = true := flatDs_of _ fun d hd => by
      obtain ⟨p, hp, rfl⟩ := List.mem_map.mp hd
      have := fd p.2 (List.of_mem_zip (show (p.1, p.2) ∈ xs.zip ds from hp)).2
      simp [rowD, flatD, flatDs, this]
    simp [flatDs, flatD, h1, h2]
  | doo => show flatDs [_, .tuple ds] = true; simp [flatDs, flatD, f]
  | call =>
    show flatDs (_ :: (ds.take 1 ++ [.tuple (ds.drop 1)])) = true
    refine flatDs_of _ fun d hd => ?_
    rcases List.mem_cons.mp hd with rfl | hd
    · rfl
    rcases List.mem_append.mp hd with hd | hd
    · exact fd d (List.mem_of_mem_take hd)
    · cases List.mem_singleton.mp hd
      show flatDs (ds.drop 1) = true
      exact flatDs_of _ fun d hd => fd d (List.mem_of_mem_drop hd)
  | op o => show flatDs [_, _, .tuple ds] = true; simp [flatDs, flatD, f]
  | plain w => show flatDs (_ :: ds) = true; simpa [flatDs, flatD] using f
theorem flat_enc (t : Tr) : flatD t.enc = true := by
  refine tr_ind (P := fun t => flatD t.enc = true) (fun hd ps ih => ?_) t
  show flatD (encH hd (Tr.encL ps)) = true
  refine flat_encH (flatDs_of _ fun d hd => ?_)
  rw [encL_map] at hd
  obtain ⟨t, m, rfl⟩ := List.mem_map.mp hd
  exact ih t m
theorem flat_encL (ps : List Tr) : flatDs (Tr.encL ps) = true := flatDs_of _ fun d hd => by
  rw [encL_map] at hd
  obtain ⟨t, m, rfl⟩ := List.mem_map.mp hd
  exact flat_enc t
/-! ### that trees can be compared -/
theorem layAll_of : ∀ {ds : List PyData}, (∀ d ∈ ds, PyData.canLay0 d = true) → PyData.canLayAll0 ds = true
  | [], _ => rfl
  | d :: ds, h => by
    show (PyData.canLay0 d && PyData.canLayAll0 ds) = true
    rw [h d List.mem_cons_self, layAll_of fun x hx => h x (List.mem_cons_of_mem _ hx)]
    rfl
theorem depAll_le {n : Nat} : ∀ {ds : List PyData}, (∀ d ∈ ds, d.depth ≤ n) → PyData.depthAll ds ≤ n
  | [], _ => by simp [PyData.depthAll]
  | d :: ds, h => by
    have h1 := h d List.mem_cons_self
    have h2 := depAll_le (ds := ds) fun x hx => h x (List.mem_cons_of_mem _ hx)
    simp only [PyData.depthAll]
    omega
theorem lay_tup {ds : List PyData} (h : ∀ d ∈ ds, PyData.canLay0 d = true) : PyData.canLay0 (.tuple ds) = true := layAll_of h
theorem dep_tup {ds : List PyData} {n : Nat} (h : ∀ d ∈ ds, d.depth ≤ n) : PyData.depth (.tuple ds) ≤ n + 1 := by
  have := depAll_le h
  simp only [PyData.depth]
  omega
theorem dep0_str (x : Str) (n : Nat) : PyData.depth (.str x) ≤ n := by simp [PyData.depth]
theorem dep0_int (x : Int) (n : Nat) : PyData.depth (.int x) ≤ n := by simp [PyData.depth]
/-- a text that may stand in data, and how deep data is -/
structure Lay (n : Nat) (d : PyData) : Prop where
  lay : PyData.canLay0 d = true
  dep : d.depth ≤ n
theorem Lay.mono {n m : Nat} {d : PyData} (h : Lay n d) (k : n ≤ m) : Lay m d := ⟨h.lay, Nat.le_trans h.dep k⟩
theorem Lay.str {x : Str} (h : sok x) (n : Nat) : Lay n (.str x) := ⟨h, dep0_str x n⟩
theorem Lay.int (i : Int) (n : Nat) : Lay n (.int i) := ⟨rfl, dep0_int i n⟩
theorem Lay.tup {n : Nat} {ds : List PyData} (h : ∀ d ∈ ds, Lay n d) : Lay (n + 1) (.tuple ds) := ⟨lay_tup fun d m => (h d m).lay, dep_tup fun d m => (h d m).dep⟩
theorem Lay.lst {n : Nat} {ds : List PyData} (h : ∀ d ∈ ds, Lay n d) : Lay (n + 1) (.list ds) := by
  have h1 : PyData.canLay0 (.list ds) = true := layAll_of fun d m => (h d m).lay
  have h2 := depAll_le fun d m => (h d m).dep
  refine ⟨h1, ?_⟩
  simp only [PyData.depth]
  omega
theorem Lay.sh {n : Nat} {d : PyData} (h : Lay n d) (k : n ≤ 64) : SeqAt.shaped d = true := by
  unfold SeqAt.shaped
  rw [h.lay, decide_eq_true (Nat.le_trans h.dep k)]
  rfl
theorem words_sok : ∀ w ∈ litW ++ oneW ++ bindW ++ plainW, sok w := by
  intro w hw
  unfold litW oneW bindW plainW at hw
  simp only [List.cons_append, List.nil_append, List.mem_cons, List.not_mem_nil, or_false] at hw
  rcases hw with rfl | rfl | rfl | rfl | rfl | rfl | rfl | rfl | rfl | rfl | rfl | rfl | rfl | rfl <;> decide +kernel
theorem mem4 {α : Type} {P : α → Prop} {a b c d : α} (ha : P a) (hb : P b) (hc : P c) (hd : P d) : ∀ x ∈ [a, b, c, d], P x := by
  intro x hx
  simp only [List.mem_cons, List.not_mem_nil, or_false] at hx
  rcases hx with rfl | rfl | rfl | rfl <;> assumption
theorem lay_strs {xs : List Str} (h : ∀ x ∈ xs, sok x) (n : Nat) : Lay (n + 1) (encs xs) := Lay.tup fun d hd => by
  obtain ⟨x, m, rfl⟩ := List.mem_map.mp hd
  exact .str (h x m) n
theorem lay_encH {h : Hd} {ds : List PyData} {n : Nat} (o : hok h ds.length) (f : ∀ d ∈ ds, Lay n d) : Lay (n + 3) (encH h ds) := by
  have up : ∀ d ∈ ds, Lay (n + 2) d := fun d m => (f d m).mono (by omega)
  have hw : ∀ w, (w ∈ litW ∨ w ∈ oneW ∨ w ∈ bindW ∨ w ∈ plainW) → Lay (n + 2) (.str w) := fun w m => .str (words_sok w (by
    simp only [List.mem_append]
    rcases m with m | m | m | m
    · exact .inl (.inl (.inl m))
    · exact .inl (.inl (.inr m))
    · exact .inl (.inr m)
    · exact .inr m)) _
  have c : ∀ {d : PyData} {ds : List PyData}, Lay (n + 2) d → (∀ e ∈ ds, Lay (n + 2) e) → ∀ e ∈ d :: ds, Lay (n + 2) e := fun a b e m => by
    rcases List.mem_cons.mp m with rfl | m
    · exact a
    · exact b e m
  have nil : ∀ e ∈ ([] : List PyData), Lay (n + 2) e := fun e m => by cases m
  have S : ∀ w : Str, sok w → Lay (n + 2) (.str w) := fun w h => .str h _
  cases h with
  | num i => exact .tup (c (S "number" (by decide +kernel)) (c (.int i _) nil))
  | name x => exact .tup (c (S "name" (by decide +kernel)) (c (S x o.2) nil))
  | lit w => exact .tup (c (hw w (.inl o.2)) nil)
  | one w x => exact .tup (c (hw w (.inr (.inl o.2.1))) (c (S x o.2.2) up))
  | fn xs => exact .tup (c (S "fn" (by decide +kernel)) (c (lay_strs o.2.2 (n + 1)) up))
  | bind w xs =>
    refine .tup (c (hw w (.inr (.inr (.inl o.2.1)))) (c (Lay.tup fun d hd => ?_) fun d hd => up d (List.mem_of_mem_drop hd)))
    obtain ⟨p, hp, rfl⟩ := List.mem_map.mp hd
    have hz := List.of_mem_zip (show (p.1, p.2) ∈ xs.zip ds from hp)
    refine Lay.tup fun d hd => ?_
    simp only [List.mem_cons, List.not_mem_nil, or_false] at hd
    rcases hd with rfl | rfl
    · exact .str (o.2.2 _ hz.1) _
    · exact f _ hz.2
  | doo => exact .tup (c (S "do" (by decide +kernel)) (c (Lay.tup (fun d m => (f d m).mono (by omega))) nil))
  | call =>
    refine .tup (c (S "call" (by decide +kernel)) fun d hd => ?_)
    rcases List.mem_append.mp hd with hd | hd
    · exact up d (List.mem_of_mem_take hd)
    · cases List.mem_singleton.mp hd
      exact Lay.tup fun d m => (f d (List.mem_of_mem_drop m)).mono (by omega)
  | op o' => exact .tup (c (S "op" (by decide +kernel)) (c (S o' o) (c (Lay.tup (fun d m => (f d m).mono (by omega))) nil)))
  | plain w => exact .tup (c (hw w (.inr (.inr (.inr o)))) up)
theorem lay_enc : ∀ (n : Nat) (t : Tr), t.ok → t.dep ≤ n → Lay (3 * n) t.enc := by
  intro n
  induction n with
  | zero =>
    intro t _ h
    cases t with
    | mk hd ps => exact absurd h (by show ¬ (Tr.deps ps + 1 ≤ 0); omega)
  | succ n ih =>
    intro t o h
    cases t with
    | mk hd ps =>
      have o' : hok hd ps.length ∧ ps.length ≤ 11 ∧ Tr.oks ps := o
      have : Lay (3 * n + 3) (encH hd (Tr.encL ps)) := lay_encH (by rw [encL_len]; exact o'.1) fun d hd => by
        rw [encL_map] at hd
        obtain ⟨t, m, rfl⟩ := List.mem_map.mp hd
        exact ih t (oks_iff.mp o'.2.2 t m) (dep_mk.mp h t m)
      exact this
end Cm

/-! x in (written words); the items of a tree's tuple -/
namespace Cm
open PySem L2 PySem.Spec PyProof.Rows
/-- written texts -/
inductive StrEs : List Expr → List Str → Prop where
  | nil : StrEs [] []
  | cons {x : Str} {k : Nat} {p : Pos} {es : List Expr} {xs : List Str} (h : StrEs es xs) : StrEs (.Constant (.str x) k p :: es) (x :: xs)
def tVals (vs : List V) : TA := fun _ H Q => Q vs H
section
variable {X : Cx} {e : Expr} {te : TE} {es : List Expr} {ws : List Str} {pos p2 : Pos} {n : Nat}
theorem pa_strs (h : StrEs es ws) : PA X es (tVals (ws.map V.str)) := by
  induction h with
  | nil => exact ⟨fun pos pins s σ H Q I h => pa_nil.run pos pins s σ H Q I h⟩
  | @cons x k p es xs h ih =>
    refine ⟨fun pos pins s σ H Q I q => (pa_cons (te := tC (.str x)) pe_str ih (by rfl)).run pos pins s σ H Q I ?_⟩
    exact q
/-- x in ('a', 'b', ..) -/
def tInW (te : TE) (ws : List Str) : TT := fun σ H Q => te σ H fun x H1 => flatV x = true ∧ ∀ H2, Same H1 H2 → Q (inV x (ws.map V.str)) H2
theorem flat_strV (ws : List Str) : (ws.map V.str).all flatV = true := by
  rw [List.all_eq_true]
  intro x hx
  obtain ⟨w, _, rfl⟩ := List.mem_map.mp hx
  rfl
theorem pt_inW (ha : PE X e te) (he : StrEs es ws) (hl : ws.length ≤ sizeLine) (hm : behindInMarks .In (.Tuple es n p2) = false) : PT X (.Compare e [.In] [.Tuple es n p2] pos) (tInW te ws) := by
  refine ⟨fun pins s σ H Q I h => ?_⟩
  refine wpAny_isTrue_Compare1 (thn (ha.run pins s σ H _ I h) fun v s1 ⟨x, H1, I1, r1, fx, q1⟩ => thn ((pe_tup (pa_strs he)).run pins s1 σ H1 (fun y H2 => y ≠ .non ∧ ∃ p, y = .ref p ∧ H2 p = some (.tup (ws.map V.str)) ∧ Same H1 H2) I1 ?_) fun u s2 ⟨y, H2, I2, r2, _, p, ey, hp, s12⟩ =>
    thn (op_in_seq pins s2 σ H2 x y v u (fun z H3 => ∃ k, z = .bl k ∧ Q k H3) I2 r1 r2 ⟨p, _, ey, .inr (.inl (.inl hp)), fx, flat_strV ws, _, rfl, q1 H2 s12⟩) fun c s3 ⟨z, H3, I3, r3, k, e, q3⟩ => ?_) hm
  · refine ⟨by rw [List.length_map]; exact hl, fun p hp => ⟨(fun z => nomatch z), p, rfl, upd_same, same_new hp⟩⟩
  · subst e
    cases r3
    exact wpAny_truthy_bool ⟨H3, I3, q3⟩
end
/-- x in ('a', ..) as a value -/
def tInWV (te : TE) (ws : List Str) : TE := fun σ H Q => te σ H fun x H1 => flatV x = true ∧ ∀ H2, Same H1 H2 → Q (.bl (inV x (ws.map V.str))) H2
section
variable {X : Cx} {e : Expr} {te : TE} {es : List Expr} {ws : List Str} {pos p2 : Pos} {n : Nat}
theorem pe_inW (ha : PE X e te) (he : StrEs es ws) (hl : ws.length ≤ sizeLine) (hm : behindInMarks .In (.Tuple es n p2) = false) : PE X (.Compare e [.In] [.Tuple es n p2] pos) (tInWV te ws) := by
  refine ⟨fun pins s σ H Q I h => ?_⟩
  refine wpAny_Compare1 (thn (ha.run pins s σ H _ I h) fun v s1 ⟨x, H1, I1, r1, fx, q1⟩ => thn ((pe_tup (pa_strs he)).run pins s1 σ H1 (fun y H2 => ∃ p, y = .ref p ∧ H2 p = some (.tup (ws.map V.str)) ∧ Same H1 H2) I1 ?_) fun u s2 ⟨y, H2, I2, r2, p, ey, hp, s12⟩ =>
    op_in_seq pins s2 σ H2 x y v u Q I2 r1 r2 ⟨p, _, ey, .inr (.inl (.inl hp)), fx, flat_strV ws, q1 H2 s12⟩) hm
  exact ⟨by rw [List.length_map]; exact hl, fun p hp => ⟨p, rfl, upd_same, same_new hp⟩⟩
end
/-! ### the items of a tree's tuple -/
def wd : Hd → Str
  | .num _ => "number"
  | .name _ => "name"
  | .lit w => w
  | .one w _ => w
  | .fn _ => "fn"
  | .bind w _ => w
  | .doo => "do"
  | .call => "call"
  | .op _ => "op"
  | .plain w => w
def Items (K : PySem.W.Frag) (H : Hp) (ds : List PyData) : Hd → List V → Prop
  | .num i, its => its = [.str "number", .int i]
  | .name x, its => its = [.str "name", .str x]
  | .lit w, its => its = [.str w]
  | .one w x, its => ∃ vs, its = .str w :: .str x :: vs ∧ DpAll K H vs ds
  | .fn xs, its => ∃ q vs, its = .str "fn" :: .ref q :: vs ∧ SqT K H q (xs.map V.str) ∧ DpAll K H vs ds
  | .bind w xs, its => ∃ q rows vs, its = .str w :: .ref q :: vs ∧ SqT K H q rows ∧ DpAll K H rows ((xs.zip ds).map rowD) ∧ DpAll K H vs (ds.drop xs.length)
  | .doo, its => ∃ q vs, its = [.str "do", .ref q] ∧ SqT K H q vs ∧ DpAll K H vs ds
  | .call, its => ∃ q us vs, its = .str "call" :: (us ++ [.ref q]) ∧ DpAll K H us (ds.take 1) ∧ SqT K H q vs ∧ DpAll K H vs (ds.drop 1)
  | .op o, its => ∃ q vs, its = [.str "op", .str o, .ref q] ∧ SqT K H q vs ∧ DpAll K H vs ds
  | .plain w, its => ∃ vs, its = .str w :: vs ∧ DpAll K H vs ds
theorem dp_str {K : PySem.W.Frag} {H : Hp} {v : V} {x : Str} (h : Dp K H v (.str x)) : v = .str x := by cases h; rfl
theorem dp_int {K : PySem.W.Frag} {H : Hp} {v : V} {x : Int} (h : Dp K H v (.int x)) : v = .int x := by cases h; rfl
theorem dp_tup {K : PySem.W.Frag} {H : Hp} {v : V} {ds : List PyData} (h : Dp K H v (.tuple ds)) : ∃ a its, v = .ref a ∧ SqT K H a its ∧ DpAll K H its ds := by
  cases h with
  | @tup a its ds hs ha => exact ⟨a, its, rfl, hs, ha⟩
theorem dpAll_strs_inv {K : PySem.W.Frag} {H : Hp} : ∀ {xs : List Str} {vs : List V}, DpAll K H vs (xs.map PyData.str) → vs = xs.map V.str
  | [], _, h => by cases h; rfl
  | x :: xs, _, h => by
    cases h with
    | cons h1 h2 => rw [dp_str h1, dpAll_strs_inv h2]; rfl
theorem dpAll_strs {K : PySem.W.Frag} {H : Hp} : ∀ xs : List Str, DpAll K H (xs.map V.str) (xs.map PyData.str)
  | [] => .nil
  | x :: xs => .cons (.str x) (dpAll_strs xs)
theorem dpAll_split {K : PySem.W.Frag} {H : Hp} : ∀ {ds es : List PyData} {vs : List V}, DpAll K H vs (ds ++ es) → ∃ us ws, vs = us ++ ws ∧ DpAll K H us ds ∧ DpAll K H ws es
  | [], es, vs, h => ⟨[], vs, rfl, .nil, h⟩
  | d :: ds, es, vs, h => by
    cases h with
    | cons h1 h2 =>
      obtain ⟨us, ws, rfl, a, b⟩ := dpAll_split h2
      exact ⟨_ :: us, ws, rfl, .cons h1 a, b⟩
theorem view {K : PySem.W.Frag} {H : Hp} {v : V} {h : Hd} {ds : List PyData} (x : Dp K H v (encH h ds)) : ∃ a its, v = .ref a ∧ SqT K H a its ∧ Items K H ds h its := by
  cases h with
  | num i =>
    obtain ⟨a, its, rfl, hs, ha⟩ := dp_tup x
    cases ha with
    | cons h1 h2 => cases h2 with
      | cons h3 h4 =>
        cases h4
        exact ⟨a, _, rfl, hs, by rw [dp_str h1, dp_int h3]; rfl⟩
  | name i =>
    obtain ⟨a, its, rfl, hs, ha⟩ := dp_tup x
    cases ha with
    | cons h1 h2 => cases h2 with
      | cons h3 h4 =>
        cases h4
        exact ⟨a, _, rfl, hs, by rw [dp_str h1, dp_str h3]; rfl⟩
  | lit i =>
    obtain ⟨a, its, rfl, hs, ha⟩ := dp_tup x
    cases ha with
    | cons h1 h2 =>
      cases h2
      exact ⟨a, _, rfl, hs, by rw [dp_str h1]; rfl⟩
  | one w i =>
    obtain ⟨a, its, rfl, hs, ha⟩ := dp_tup x
    cases ha with
    | cons h1 h2 => cases h2 with
      | cons h3 h4 => exact ⟨a, _, rfl, hs, _, by rw [dp_str h1, dp_str h3], h4⟩
  | fn xs =>
    obtain ⟨a, its, rfl, hs, ha⟩ := dp_tup x
    cases ha with
    | cons h1 h2 => cases h2 with
      | cons h3 h4 =>
        obtain ⟨q, vs, rfl, hq, hv⟩ := dp_tup h3
        rw [dpAll_strs_inv hv] at hq
        exact ⟨a, _, rfl, hs, q, _, by rw [dp_str h1], hq, h4⟩
  | bind w xs =>
    obtain ⟨a, its, rfl, hs, ha⟩ := dp_tup x
    cases ha with
    | cons h1 h2 => cases h2 with
      | cons h3 h4 =>
        obtain ⟨q, vs, rfl, hq, hv⟩ := dp_tup h3
        exact ⟨a, _, rfl, hs, q, vs, _, by rw [dp_str h1], hq, hv, h4⟩
  | doo =>
    obtain ⟨a, its, rfl, hs, ha⟩ := dp_tup x
    cases ha with
    | cons h1 h2 => cases h2 with
      | cons h3 h4 =>
        cases h4
        obtain ⟨q, vs, rfl, hq, hv⟩ := dp_tup h3
        exact ⟨a, _, rfl, hs, q, vs, by rw [dp_str h1], hq, hv⟩
  | call =>
    obtain ⟨a, its, rfl, hs, ha⟩ := dp_tup x
    cases ha with
    | cons h1 h2 =>
      obtain ⟨us, ws, rfl, h3, h4⟩ := dpAll_split h2
      cases h4 with
      | cons h5 h6 =>
        cases h6
        obtain ⟨q, vs, rfl, hq, hv⟩ := dp_tup h5
        exact ⟨a, _, rfl, hs, q, us, vs, by rw [dp_str h1], h3, hq, hv⟩
  | op o =>
    obtain ⟨a, its, rfl, hs, ha⟩ := dp_tup x
    cases ha with
    | cons h1 h2 => cases h2 with
      | cons h3 h4 => cases h4 with
        | cons h5 h6 =>
          cases h6
          obtain ⟨q, vs, rfl, hq, hv⟩ := dp_tup h5
          exact ⟨a, _, rfl, hs, q, vs, by rw [dp_str h1, dp_str h3], hq, hv⟩
  | plain w =>
    obtain ⟨a, its, rfl, hs, ha⟩ := dp_tup x
    cases ha with
    | cons h1 h2 => exact ⟨a, _, rfl, hs, _, by rw [dp_str h1], h2⟩
theorem unview {K : PySem.W.Frag} {H : Hp} {a : Addr} {its : List V} {h : Hd} {ds : List PyData} (hs : SqT K H a its) (x : Items K H ds h its) : Dp K H (.ref a) (encH h ds) := by
  cases h with
  | num i => obtain rfl := (show its = _ from x); exact .tup hs (.cons (.str _) (.cons (.int _) .nil))
  | name i => obtain rfl := (show its = _ from x); exact .tup hs (.cons (.str _) (.cons (.str _) .nil))
  | lit i => obtain rfl := (show its = _ from x); exact .tup hs (.cons (.str _) .nil)
  | one w i => obtain ⟨vs, rfl, hv⟩ := x; exact .tup hs (.cons (.str _) (.cons (.str _) hv))
  | fn xs => obtain ⟨q, vs, rfl, hq, hv⟩ := x; exact .tup hs (.cons (.str _) (.cons (.tup hq (dpAll_strs xs)) hv))
  | bind w xs => obtain ⟨q, rows, vs, rfl, hq, hr, hv⟩ := x; exact .tup hs (.cons (.str _) (.cons (.tup hq hr) hv))
  | doo => obtain ⟨q, vs, rfl, hq, hv⟩ := x; exact .tup hs (.cons (.str _) (.cons (.tup hq hv) .nil))
  | call => obtain ⟨q, us, vs, rfl, hu, hq, hv⟩ := x; exact .tup hs (.cons (.str _) (DpAll.app hu (.cons (.tup hq hv) .nil)))
  | op o => obtain ⟨q, vs, rfl, hq, hv⟩ := x; exact .tup hs (.cons (.str _) (.cons (.str _) (.cons (.tup hq hv) .nil)))
  | plain w => obtain ⟨vs, rfl, hv⟩ := x; exact .tup hs (.cons (.str _) hv)
theorem Items.head {K : PySem.W.Frag} {H : Hp} {h : Hd} {ds : List PyData} {its : List V} (x : Items K H ds h its) : atI its 0 = some (.str (wd h)) := by
  refine atI_nat (j := 0) ?_
  cases h with
  | num i => obtain rfl := (show its = _ from x); rfl
  | name i => obtain rfl := (show its = _ from x); rfl
  | lit i => obtain rfl := (show its = _ from x); rfl
  | one w i => obtain ⟨vs, rfl, _⟩ := x; rfl
  | fn xs => obtain ⟨q, vs, rfl, _⟩ := x; rfl
  | bind w xs => obtain ⟨q, rows, vs, rfl, _⟩ := x; rfl
  | doo => obtain ⟨q, vs, rfl, _⟩ := x; rfl
  | call => obtain ⟨q, us, vs, rfl, _⟩ := x; rfl
  | op o => obtain ⟨q, vs, rfl, _⟩ := x; rfl
  | plain w => obtain ⟨vs, rfl, _⟩ := x; rfl
theorem Items.same {K : PySem.W.Frag} {H H' : Hp} {h : Hd} {ds : List PyData} {its : List V} (x : Items K H ds h its) (s : Same H H') : Items K H' ds h its := by
  cases h with
  | num i => exact x
  | name i => exact x
  | lit i => exact x
  | one w i => obtain ⟨vs, e, hv⟩ := x; exact ⟨vs, e, dps_same s _ _ hv⟩
  | fn xs => obtain ⟨q, vs, e, hq, hv⟩ := x; exact ⟨q, vs, e, sqt_same s hq, dps_same s _ _ hv⟩
  | bind w xs => obtain ⟨q, rows, vs, e, hq, hr, hv⟩ := x; exact ⟨q, rows, vs, e, sqt_same s hq, dps_same s _ _ hr, dps_same s _ _ hv⟩
  | doo => obtain ⟨q, vs, e, hq, hv⟩ := x; exact ⟨q, vs, e, sqt_same s hq, dps_same s _ _ hv⟩
  | call => obtain ⟨q, us, vs, e, hu, hq, hv⟩ := x; exact ⟨q, us, vs, e, dps_same s _ _ hu, sqt_same s hq, dps_same s _ _ hv⟩
  | op o => obtain ⟨q, vs, e, hq, hv⟩ := x; exact ⟨q, vs, e, sqt_same s hq, dps_same s _ _ hv⟩
  | plain w => obtain ⟨vs, e, hv⟩ := x; exact ⟨vs, e, dps_same s _ _ hv⟩
/-! ### what the word of a head is -/
def kd : Hd → Nat
  | .num _ => 0
  | .name _ => 1
  | .lit _ => 2
  | .one _ _ => 3
  | .fn _ => 4
  | .bind _ _ => 5
  | .doo => 6
  | .call => 7
  | .op _ => 8
  | .plain _ => 9
def wordsOf : Nat → List Str
  | 0 => ["number"]
  | 1 => ["name"]
  | 2 => litW
  | 3 => oneW
  | 4 => ["fn"]
  | 5 => bindW
  | 6 => ["do"]
  | 7 => ["call"]
  | 8 => ["op"]
  | _ => plainW
theorem wd_mem {h : Hd} {n : Nat} (o : hok h n) : kd h < 10 ∧ wd h ∈ wordsOf (kd h) := by
  cases h with
  | num i => exact ⟨Nat.le_of_ble_eq_true rfl, List.mem_singleton.mpr rfl⟩
  | name i => exact ⟨Nat.le_of_ble_eq_true rfl, List.mem_singleton.mpr rfl⟩
  | lit w => exact ⟨Nat.le_of_ble_eq_true rfl, o.2⟩
  | one w x => exact ⟨Nat.le_of_ble_eq_true rfl, o.2.1⟩
  | fn xs => exact ⟨Nat.le_of_ble_eq_true rfl, List.mem_singleton.mpr rfl⟩
  | bind w xs => exact ⟨Nat.le_of_ble_eq_true rfl, o.2.1⟩
  | doo => exact ⟨Nat.le_of_ble_eq_true rfl, List.mem_singleton.mpr rfl⟩
  | call => exact ⟨Nat.le_of_ble_eq_true rfl, List.mem_singleton.mpr rfl⟩
  | op i => exact ⟨Nat.le_of_ble_eq_true rfl, List.mem_singleton.mpr rfl⟩
  | plain w => exact ⟨Nat.le_of_ble_eq_true rfl, o⟩
/-- what is asked of the word alone -/
theorem by_kind (p : Str → Bool) (k : Nat → Bool) (hc : ∀ c < 10, ∀ w ∈ wordsOf c, p w = k c) {h : Hd} {n : Nat} (o : hok h n) : p (wd h) = k (kd h) :=
  hc _ (wd_mem o).1 _ (wd_mem o).2
def kF (h : Hd) : Bool := kd h == 3 || kd h == 4
def kB (h : Hd) : Bool := kd h == 5
def kP (h : Hd) : Bool := kd h == 9
def kL (h : Hd) : Bool := kd h < 3
def isDo (h : Hd) : Bool := kd h == 6
def isCall (h : Hd) : Bool := kd h == 7
def isOp (h : Hd) : Bool := kd h == 8
theorem in_words {ws : List Str} {x : Str} : inV (.str x) (ws.map V.str) = decide (x ∈ ws) := by
  induction ws with
  | nil => rfl
  | cons w ws ih =>
    show (eqV (V.str w) (V.str x) || inV (.str x) (ws.map V.str)) = _
    rw [ih]
    have e : eqV (V.str w) (V.str x) = decide (x = w) := by
      show (w == x) = _
      by_cases q : x = w
      · rw [q]; simp
      · have : ¬ w = x := fun z => q z.symm
        simp [q, this]
    rw [e]
    by_cases q : x = w <;> simp [q]
section
variable {h : Hd} {n : Nat}
theorem in_F (o : hok h n) : inV (.str (wd h)) ((["fn", "set", "keep", "once", "take"] : List Str).map V.str) = kF h :=
  by_kind (fun w => inV (.str w) ((["fn", "set", "keep", "once", "take"] : List Str).map V.str)) (fun k => k == 3 || k == 4) (by decide +kernel) o
theorem in_B (o : hok h n) : inV (.str (wd h)) ((["let", "rec"] : List Str).map V.str) = kB h :=
  by_kind (fun w => inV (.str w) ((["let", "rec"] : List Str).map V.str)) (fun k => k == 5) (by decide +kernel) o
theorem in_P (o : hok h n) : inV (.str (wd h)) ((["if", "mark", "wind", "show"] : List Str).map V.str) = kP h :=
  by_kind (fun w => inV (.str w) ((["if", "mark", "wind", "show"] : List Str).map V.str)) (fun k => k == 9) (by decide +kernel) o
theorem in_L (o : hok h n) : inV (.str (wd h)) ((["number", "true", "false", "none", "name", "ask"] : List Str).map V.str) = kL h :=
  by_kind (fun w => inV (.str w) ((["number", "true", "false", "none", "name", "ask"] : List Str).map V.str)) (fun k => k < 3) (by decide +kernel) o
theorem eq_do (o : hok h n) : decide (V.str (wd h) = V.str "do") = isDo h := by
  rw [decS]
  exact by_kind (fun w => decide (w = "do")) (fun k => k == 6) (by decide +kernel) o
theorem eq_call (o : hok h n) : decide (V.str (wd h) = V.str "call") = isCall h := by
  rw [decS]
  exact by_kind (fun w => decide (w = "call")) (fun k => k == 7) (by decide +kernel) o
theorem eq_op (o : hok h n) : decide (V.str (wd h) = V.str "op") = isOp h := by
  rw [decS]
  exact by_kind (fun w => decide (w = "op")) (fun k => k == 8) (by decide +kernel) o
end
end Cm

/-! slices and sums of tuples whichever object they are; rules with K said -/
namespace Cm
open PySem L2 PySem.Spec PyProof.Rows
theorem cut_from {xs : List V} {k : Nat} (h : k ≤ xs.length) : cutV xs (some (k : Int)) Option.none = xs.drop k := by
  unfold cutV
  rw [HT.sIx_nat, HT.sIx_none, Nat.min_eq_left h]
  exact List.take_of_length_le (by rw [List.length_drop]; omega)
theorem cut_to {xs : List V} {k : Nat} (h : k ≤ xs.length) : cutV xs Option.none (some (k : Int)) = xs.take k := by
  unfold cutV
  rw [HT.sIx_nat, HT.sIx_none, Nat.min_eq_left h, List.drop_zero, Nat.sub_zero]
/-- t[k:] of a tuple: whichever object it is -/
theorem sl_from {K : PySem.W.Frag} {a : Addr} {xs : List V} {k : Nat} {σ : L2.St} {H : Hp} {Q : VK} (hs : SqT K H a xs) (hk : k ≤ xs.length) (h : ∀ t H', Same H H' → SqT K H' t (xs.drop k) → Q (.ref t) H') :
    (tNoPart σ H fun u H1 => rSlA K (.ref a) (some (k : Int)) u H1 Q) := by
  refine ⟨a, xs, rfl, hs, fun q => ?_, fun _ p hp => ?_⟩
  · rw [HT.sIx_nat, Nat.min_eq_left hk] at q
    have : k = 0 := q.1
    subst this
    exact h a H (Same.refl H) hs
  · rw [cut_from hk]
    exact h p _ (same_new hp) (.inl (.inl upd_same))
theorem sl_to {K : PySem.W.Frag} {a : Addr} {xs : List V} {k : Nat} {H : Hp} {Q : VK} (hs : SqT K H a xs) (hk : k ≤ xs.length) (h : ∀ t H', Same H H' → SqT K H' t (xs.take k) → Q (.ref t) H') :
    rSlA K (.ref a) Option.none (some (k : Int)) H Q := by
  refine ⟨a, xs, rfl, hs, fun q => ?_, fun _ p hp => ?_⟩
  · rw [HT.sIx_nat, Nat.min_eq_left hk] at q
    have e : xs.take k = xs := List.take_of_length_le (by rw [q.2]; exact Nat.le_refl _)
    refine h a H (Same.refl H) ?_
    rw [e]
    exact hs
  · rw [cut_to hk]
    exact h p _ (same_new hp) (.inl (.inl upd_same))
theorem cat_any {K : PySem.W.Frag} {a b : Addr} {xs ys : List V} {H : Hp} {Q : VK} (ha : SqT K H a xs) (hb : SqT K H b ys) (hl : xs.length + ys.length ≤ sizeLine)
    (h : ∀ t H', Same H H' → SqT K H' t (xs ++ ys) → Q (.ref t) H') : rCatA K (.ref a) (.ref b) H Q := by
  refine ⟨a, b, xs, ys, rfl, rfl, ha, hb, hl, fun e => ?_, fun _ e => ?_, fun _ _ p hp => h p _ (same_new hp) (.inl (.inl upd_same))⟩
  · exact h b H (Same.refl H) (by rw [e]; exact hb)
  · exact h a H (Same.refl H) (by rw [e, List.append_nil]; exact ha)
theorem range_map {α β : Type} (f : α → β) (l : List α) : (List.range l.length).filterMap (fun i => (l[i]?).map f) = l.map f := by
  induction l with
  | nil => rfl
  | cons a l ih =>
    rw [List.length_cons, List.range_succ_eq_map, List.filterMap_cons]
    simp only [List.getElem?_cons_zero, Option.map_some, List.filterMap_map]
    rw [List.map_cons, ← ih]
    congr 1
theorem ke_tupleOf {X : Cx} {K : PySem.W.Frag} {a : Expr} {ta : TE} {p pos : Pos} (hg : Gl X "tuple") (hm : X.mg "tuple" = none) (ha : PE X a ta) (h : X.K = K := by rfl) (na : starEach [a] X.env = (false, eval a X.env) :: starEach [] X.env := by rfl) :
    PE X (.Call (.Name "tuple" p) [a] [] pos) (tThen ta (kTup K)) := by
  subst h
  exact pe_tupleOf hg hm ha na
theorem ne_same' {d : PyData} (h : SeqAt.shaped d = true) : (!PyData.eqv d d) = false := by
  rw [SeqAt.eqv_refl d (SeqAt.canLay_of_shaped h)]
  rfl
theorem kc_isi {X : Cx} {K : PySem.W.Frag} (h : X.K = K := by rfl) : CallR X (.builtin "isinstance") (rIsi K) := by subst h; exact call_isi
theorem one_of {α : Type} {xs : List α} (h : xs.length = 1) : ∃ x, xs = [x] := by
  cases xs with
  | nil => simp at h
  | cons a r =>
    cases r with
    | nil => exact ⟨a, rfl⟩
    | cons b r => simp at h
theorem dpAll_one {K : PySem.W.Frag} {H : Hp} {vs : List V} {d : PyData} (h : DpAll K H vs [d]) : ∃ v, vs = [v] ∧ Dp K H v d := by
  cases h with
  | cons h1 h2 =>
    cases h2
    exact ⟨_, rfl, h1⟩
theorem dps_cat {K : PySem.W.Frag} {H : Hp} {ds es : List PyData} {vs us : List V} (h1 : DpAll K H vs ds) (h2 : DpAll K H us es) : DpAll K H (vs ++ us) (ds ++ es) := DpAll.app h1 h2
theorem free_of {H H' : Hp} {p : Addr} (s : Same H H') (h : H' p = Option.none) : H p = Option.none := by
  cases e : H p with
  | none => rfl
  | some o =>
    have := s _ _ e
    rw [h] at this
    cases this
end Cm

/-! paths of trees -/
namespace Cm
open PySem L2 PySem.Spec PyProof.Rows
def Tr.hd : Tr → Hd
  | .mk h _ => h
def Tr.ps : Tr → List Tr
  | .mk _ ps => ps
def Tr.at : List Int → Tr → Option Tr
  | [], t => some t
  | i :: r, .mk _ ps => if 0 ≤ i then (ps[i.toNat]?).bind (Tr.at r) else none
def Tr.put : List Int → Tr → Tr → Tr
  | [], _, o => o
  | i :: r, .mk h ps, o => match ps[i.toNat]? with
    | some p => .mk h (ps.set i.toNat (Tr.put r p o))
    | none => .mk h ps
mutual
def Tr.paths : Tr → List (List Int)
  | .mk _ ps => [] :: Tr.pathsL 0 ps
def Tr.pathsL : Nat → List Tr → List (List Int)
  | _, [] => []
  | i, t :: ts => t.paths.map (fun p => ((i : Nat) : Int) :: p) ++ Tr.pathsL (i + 1) ts
end
mutual
def Tr.size : Tr → Nat
  | .mk _ ps => Tr.sizes ps + 1
def Tr.sizes : List Tr → Nat
  | [] => 0
  | t :: ts => t.size + Tr.sizes ts
end
theorem at_snoc : ∀ (p : List Int) (i : Int) (t : Tr), Tr.at (p ++ [i]) t = (Tr.at p t).bind (Tr.at [i])
  | [], i, t => rfl
  | j :: r, i, .mk h ps => by
    show (if 0 ≤ j then (ps[j.toNat]?).bind (Tr.at (r ++ [i])) else none) = ((if 0 ≤ j then (ps[j.toNat]?).bind (Tr.at r) else none) : Option Tr).bind (Tr.at [i])
    by_cases q : 0 ≤ j
    · rw [if_pos q, if_pos q]
      cases ps[j.toNat]? with
      | none => rfl
      | some p => exact at_snoc r i p
    · rw [if_neg q, if_neg q]
      rfl
theorem at_one {i : Nat} {h : Hd} {ps : List Tr} : Tr.at [((i : Nat) : Int)] (.mk h ps) = ps[i]? := by
  show (if 0 ≤ ((i : Nat) : Int) then (ps[((i : Nat) : Int).toNat]?).bind (Tr.at []) else none) = _
  rw [if_pos (by omega), Int.toNat_natCast]
  cases ps[i]? <;> rfl
theorem at_ok : ∀ (p : List Int) {t s : Tr}, t.ok → Tr.at p t = some s → s.ok
  | [], t, s, o, e => by cases e; exact o
  | i :: r, .mk h ps, s, o, e => by
    have e' : (if 0 ≤ i then (ps[i.toNat]?).bind (Tr.at r) else none) = some s := e
    by_cases q : 0 ≤ i
    · rw [if_pos q] at e'
      cases hp : ps[i.toNat]? with
      | none => rw [hp] at e'; cases e'
      | some p =>
        rw [hp] at e'
        have o' : hok h ps.length ∧ ps.length ≤ 11 ∧ Tr.oks ps := o
        exact at_ok r (oks_iff.mp o'.2.2 p (List.mem_of_getElem? hp)) e'
    · rw [if_neg q] at e'
      cases e'
theorem at_dep : ∀ (p : List Int) {t s : Tr}, Tr.at p t = some s → s.dep + p.length ≤ t.dep
  | [], t, s, e => by cases e; exact Nat.le_refl _
  | i :: r, .mk h ps, s, e => by
    have e' : (if 0 ≤ i then (ps[i.toNat]?).bind (Tr.at r) else none) = some s := e
    by_cases q : 0 ≤ i
    · rw [if_pos q] at e'
      cases hp : ps[i.toNat]? with
      | none => rw [hp] at e'; cases e'
      | some p =>
        rw [hp] at e'
        have h1 := at_dep r (t := p) e'
        have h2 := deps_le.mp (Nat.le_refl (Tr.deps ps)) p (List.mem_of_getElem? hp)
        show s.dep + (r.length + 1) ≤ Tr.deps ps + 1
        omega
    · rw [if_neg q] at e'
      cases e'
theorem pathsL_snoc (t : Tr) : ∀ (ts : List Tr) (i : Nat), Tr.pathsL i (ts ++ [t]) = Tr.pathsL i ts ++ t.paths.map (fun p => (((i + ts.length : Nat)) : Int) :: p)
  | [], i => by
    show t.paths.map _ ++ [] = [] ++ _
    simp
  | a :: ts, i => by
    show a.paths.map _ ++ Tr.pathsL (i + 1) (ts ++ [t]) = (a.paths.map _ ++ Tr.pathsL (i + 1) ts) ++ _
    rw [pathsL_snoc t ts (i + 1), List.append_assoc, List.length_cons, show i + 1 + ts.length = i + (ts.length + 1) by omega]
mutual
theorem paths_len : ∀ t : Tr, t.paths.length = t.size
  | .mk h ps => by
    show (Tr.pathsL 0 ps).length + 1 = Tr.sizes ps + 1
    rw [pathsL_len 0 ps]
theorem pathsL_len : ∀ (i : Nat) (ts : List Tr), (Tr.pathsL i ts).length = Tr.sizes ts
  | _, [] => rfl
  | i, t :: ts => by
    show (t.paths.map _ ++ Tr.pathsL (i + 1) ts).length = t.size + Tr.sizes ts
    rw [List.length_append, List.length_map, paths_len t, pathsL_len (i + 1) ts]
end
theorem pathsL_mem {q : List Int} : ∀ (ts : List Tr) (i : Nat), q ∈ Tr.pathsL i ts → ∃ (j : Nat) (t : Tr) (p : List Int), ts[j]? = some t ∧ p ∈ t.paths ∧ q = ((i + j : Nat) : Int) :: p
  | [], i, m => by cases m
  | a :: ts, i, m => by
    have m' : q ∈ a.paths.map (fun p => ((i : Nat) : Int) :: p) ++ Tr.pathsL (i + 1) ts := m
    rcases List.mem_append.mp m' with m | m
    · obtain ⟨p, hp, rfl⟩ := List.mem_map.mp m
      exact ⟨0, a, p, rfl, hp, rfl⟩
    · obtain ⟨j, t, p, e1, e2, e3⟩ := pathsL_mem ts (i + 1) m
      exact ⟨j + 1, t, p, by simpa using e1, e2, by rw [e3]; congr 2; omega⟩
theorem paths_at : ∀ (n : Nat) (t : Tr), t.dep ≤ n → ∀ p ∈ t.paths, ∃ s, Tr.at p t = some s := by
  intro n
  induction n with
  | zero =>
    intro t h
    cases t with
    | mk hd ps => exact absurd h (by show ¬ (Tr.deps ps + 1 ≤ 0); omega)
  | succ n ih =>
    intro t h p hp
    cases t with
    | mk hd ps =>
      have hp' : p ∈ ([] : List Int) :: Tr.pathsL 0 ps := hp
      rcases List.mem_cons.mp hp' with rfl | hp'
      · exact ⟨_, rfl⟩
      · obtain ⟨j, t, q, e1, e2, rfl⟩ := pathsL_mem ps 0 hp'
        obtain ⟨s, es⟩ := ih t (dep_mk.mp h t (List.mem_of_getElem? e1)) q e2
        refine ⟨s, ?_⟩
        show (if 0 ≤ ((0 + j : Nat) : Int) then (ps[((0 + j : Nat) : Int).toNat]?).bind (Tr.at q) else none) = some s
        rw [if_pos (by omega), Nat.zero_add, Int.toNat_natCast, e1]
        exact es
theorem paths_size : ∀ (n : Nat) (t : Tr), t.dep ≤ n → ∀ p ∈ t.paths, p.length < t.dep := by
  intro n t h p hp
  obtain ⟨s, es⟩ := paths_at n t h p hp
  have := at_dep p es
  have : 1 ≤ s.dep := by cases s with | mk hd ps => show 1 ≤ Tr.deps ps + 1; omega
  omega
def pathI (x : List Int) : PyData := .tuple (x.map PyData.int)
theorem flat_pathI (xs : List (List Int)) : flatDs (xs.map pathI) = true := flatDs_of _ fun d hd => by
  obtain ⟨x, _, rfl⟩ := List.mem_map.mp hd
  exact flatDs_ints x
theorem dp_pathI {K : PySem.W.Frag} {H : Hp} {t : Addr} {x : List Int} (h : SqT K H t (x.map V.int)) : Dp K H (.ref t) (pathI x) := .tup h (dpAll_ints x)
theorem dpAll_ints_inv {K : PySem.W.Frag} {H : Hp} : ∀ {x : List Int} {vs : List V}, DpAll K H vs (x.map PyData.int) → vs = x.map V.int
  | [], _, h => by cases h; rfl
  | i :: x, _, h => by
    cases h with
    | cons h1 h2 => rw [dp_int h1, dpAll_ints_inv h2]; rfl
theorem pathI_inv {K : PySem.W.Frag} {H : Hp} {v : V} {x : List Int} (h : Dp K H v (pathI x)) : ∃ t, v = .ref t ∧ SqT K H t (x.map V.int) := by
  obtain ⟨a, its, rfl, hs, ha⟩ := dp_tup h
  rw [dpAll_ints_inv ha] at hs
  exact ⟨a, rfl, hs⟩
end Cm

/-! keep forms of trees; once in their place -/
namespace Cm
open PySem L2 PySem.Spec PyProof.Rows
def isKeep : Hd → Bool
  | .one w _ => decide (w = "keep")
  | _ => false
theorem eq_keep {h : Hd} {n : Nat} (o : hok h n) : decide (V.str (wd h) = V.str "keep") = isKeep h := by
  have other : kd h ≠ 3 → decide (wd h = "keep") = false := fun q => by
    have key : ∀ c < 10, c ≠ 3 → ∀ w ∈ wordsOf c, decide (w = ("keep" : Str)) = false := by decide +kernel
    exact key _ (wd_mem o).1 q _ (wd_mem o).2
  rw [decS]
  cases h with
  | one w x => rfl
  | num i => exact other (Nat.ne_of_beq_eq_false rfl)
  | name i => exact other (Nat.ne_of_beq_eq_false rfl)
  | lit i => exact other (Nat.ne_of_beq_eq_false rfl)
  | fn i => exact other (Nat.ne_of_beq_eq_false rfl)
  | bind i _ => exact other (Nat.ne_of_beq_eq_false rfl)
  | doo => exact other (Nat.ne_of_beq_eq_false rfl)
  | call => exact other (Nat.ne_of_beq_eq_false rfl)
  | op i => exact other (Nat.ne_of_beq_eq_false rfl)
  | plain i => exact other (Nat.ne_of_beq_eq_false rfl)
def keepAt (t : Tr) (p : List Int) : Bool := match Tr.at p t with
  | some s => isKeep s.hd
  | none => false
def keepPaths (t : Tr) : List (List Int) := t.paths.filter (keepAt t)
def keepL : Nat → List Tr → List (List Int)
  | _, [] => []
  | i, t :: ts => (keepPaths t).map (fun p => ((i : Nat) : Int) :: p) ++ keepL (i + 1) ts
theorem keepAt_cons {h : Hd} {ps : List Tr} {j : Nat} {t : Tr} (e : ps[j]? = some t) (p : List Int) : keepAt (.mk h ps) (((j : Nat) : Int) :: p) = keepAt t p := by
  unfold keepAt
  show (match (if 0 ≤ ((j : Nat) : Int) then (ps[((j : Nat) : Int).toNat]?).bind (Tr.at p) else none : Option Tr) with | some s => isKeep s.hd | none => false) = _
  rw [if_pos (by omega), Int.toNat_natCast, e]
  rfl
theorem filter_pathsL (h : Hd) : ∀ (ts pre : List Tr), (Tr.pathsL pre.length ts).filter (keepAt (.mk h (pre ++ ts))) = keepL pre.length ts
  | [], pre => rfl
  | t :: ts, pre => by
    show (t.paths.map (fun p => ((pre.length : Nat) : Int) :: p) ++ Tr.pathsL (pre.length + 1) ts).filter _ = (keepPaths t).map _ ++ keepL (pre.length + 1) ts
    have ih := filter_pathsL h ts (pre ++ [t])
    rw [List.length_append, List.length_singleton, List.append_assoc] at ih
    rw [List.filter_append]
    have e2 : pre ++ t :: ts = pre ++ ([t] ++ ts) := rfl
    rw [e2, ih]
    congr 1
    rw [List.filter_map]
    congr 1
    unfold keepPaths
    refine List.filter_congr fun p _ => ?_
    show keepAt (.mk h (pre ++ ([t] ++ ts))) (((pre.length : Nat) : Int) :: p) = keepAt t p
    exact keepAt_cons (by rw [List.getElem?_append_right (Nat.le_refl _), Nat.sub_self]; rfl) p
theorem keepPaths_mk (h : Hd) (ps : List Tr) : keepPaths (.mk h ps) = (if isKeep h = true then [[]] else []) ++ keepL 0 ps := by
  unfold keepPaths
  show (([] : List Int) :: Tr.pathsL 0 ps).filter (keepAt (.mk h ps)) = _
  have e := filter_pathsL h ps []
  simp only [List.nil_append, List.length_nil] at e
  rw [List.filter_cons, e]
  show (if isKeep h = true then _ else _) = _
  by_cases q : isKeep h = true
  · rw [if_pos q, if_pos q]; rfl
  · rw [if_neg q, if_neg q]; rfl
theorem keepL_snoc (t : Tr) : ∀ (ts : List Tr) (i : Nat), keepL i (ts ++ [t]) = keepL i ts ++ (keepPaths t).map (fun p => (((i + ts.length : Nat)) : Int) :: p)
  | [], i => by
    show (keepPaths t).map _ ++ [] = [] ++ _
    simp
  | a :: ts, i => by
    show (keepPaths a).map _ ++ keepL (i + 1) (ts ++ [t]) = ((keepPaths a).map _ ++ keepL (i + 1) ts) ++ _
    rw [keepL_snoc t ts (i + 1), List.append_assoc, List.length_cons, show i + 1 + ts.length = i + (ts.length + 1) by omega]
theorem keepL_le : ∀ (ts : List Tr) (i : Nat), (keepL i ts).length ≤ Tr.sizes ts
  | [], i => Nat.le_refl _
  | t :: ts, i => by
    have := keepL_le ts (i + 1)
    have h1 : (keepPaths t).length ≤ t.size := by rw [← paths_len]; exact List.length_filter_le ..
    show ((keepPaths t).map _ ++ keepL (i + 1) ts).length ≤ t.size + Tr.sizes ts
    rw [List.length_append, List.length_map]
    omega
/-! ### once in the place of keep at the paths of S -/
def reword (b : Bool) : Hd → Hd
  | .one w x => if b = true ∧ w = "keep" then .one "once" x else .one w x
  | h => h
mutual
def Tr.rw (S : List (List Int)) (pre : List Int) : Tr → Tr
  | .mk h ps => .mk (reword (decide (pre ∈ S)) h) (Tr.rwL S pre 0 ps)
def Tr.rwL (S : List (List Int)) (pre : List Int) : Nat → List Tr → List Tr
  | _, [] => []
  | i, t :: ts => Tr.rw S (pre ++ [((i : Nat) : Int)]) t :: Tr.rwL S pre (i + 1) ts
end
theorem rwL_len (S : List (List Int)) (pre : List Int) : ∀ (ts : List Tr) (i : Nat), (Tr.rwL S pre i ts).length = ts.length
  | [], _ => rfl
  | t :: ts, i => by
    show (Tr.rwL S pre (i + 1) ts).length + 1 = ts.length + 1
    rw [rwL_len S pre ts (i + 1)]
theorem rwL_at (S : List (List Int)) (pre : List Int) : ∀ (ts : List Tr) (i j : Nat), (Tr.rwL S pre i ts)[j]? = (ts[j]?).map (Tr.rw S (pre ++ [((i + j : Nat) : Int)]))
  | [], _, _ => rfl
  | t :: ts, i, 0 => rfl
  | t :: ts, i, j + 1 => by
    show (Tr.rwL S pre (i + 1) ts)[j]? = (ts[j]?).map _
    rw [rwL_at S pre ts (i + 1) j, show i + 1 + j = i + (j + 1) by omega]
theorem rwL_eq {S R : List (List Int)} {pre : List Int} : ∀ (ts : List Tr) (i : Nat), (∀ j t, ts[j]? = some t → Tr.rw S (pre ++ [((i + j : Nat) : Int)]) t = Tr.rw R (pre ++ [((i + j : Nat) : Int)]) t) → Tr.rwL S pre i ts = Tr.rwL R pre i ts
  | [], _, _ => rfl
  | t :: ts, i, h => by
    show Tr.rw S _ t :: Tr.rwL S pre (i + 1) ts = Tr.rw R _ t :: Tr.rwL R pre (i + 1) ts
    have h0 := h 0 t rfl
    rw [Nat.add_zero] at h0
    have h1 := rwL_eq (S := S) (R := R) (pre := pre) ts (i + 1) fun j t e => by
      have := h (j + 1) t (by simpa using e)
      rw [show i + 1 + j = i + (j + 1) by omega]
      exact this
    rw [h0, h1]
/-- a path that does not begin so changes nothing -/
theorem rw_irrel {S : List (List Int)} {q : List Int} (t : Tr) : ∀ (pre : List Int), (∀ r, q ≠ pre ++ r) → Tr.rw (S ++ [q]) pre t = Tr.rw S pre t := by
  refine tr_ind (P := fun t => ∀ (pre : List Int), (∀ r, q ≠ pre ++ r) → Tr.rw (S ++ [q]) pre t = Tr.rw S pre t) (fun h ps ih pre hq => ?_) t
  show Tr.mk (reword (decide (pre ∈ S ++ [q])) h) (Tr.rwL (S ++ [q]) pre 0 ps) = Tr.mk (reword (decide (pre ∈ S)) h) (Tr.rwL S pre 0 ps)
  have e1 : decide (pre ∈ S ++ [q]) = decide (pre ∈ S) := by
    have n : pre ≠ q := fun e => hq [] (by rw [e, List.append_nil])
    simp [n]
  rw [e1, rwL_eq ps 0 fun j t e => ih t (List.mem_of_getElem? e) _ fun r z => hq ([((0 + j : Nat) : Int)] ++ r) (by rw [z, List.append_assoc])]
theorem put_rw {S : List (List Int)} : ∀ (p pre : List Int) (t : Tr) (x : Str) (b : Tr), Tr.at p t = some (.mk (.one "keep" x) [b]) →
    ∃ w b', Tr.at p (Tr.rw S pre t) = some (.mk (.one w x) [b']) ∧ Tr.put p (Tr.rw S pre t) (.mk (.one "once" x) [b']) = Tr.rw (S ++ [pre ++ p]) pre t
  | [], pre, t, x, b, e => by
    cases e
    have e2 : Tr.rw (S ++ [pre ++ []]) pre (.mk (.one "keep" x) [b]) = .mk (.one "once" x) [Tr.rw S (pre ++ [((0 : Nat) : Int)]) b] := by
      show Tr.mk (reword (decide (pre ∈ S ++ [pre ++ []])) (.one "keep" x)) [Tr.rw (S ++ [pre ++ []]) (pre ++ [((0 : Nat) : Int)]) b] = _
      rw [List.append_nil, rw_irrel b (pre ++ [((0 : Nat) : Int)]) fun r z => by
        have := congrArg List.length z
        simp at this]
      simp [reword]
    have e3 : ∃ w, reword (decide (pre ∈ S)) (.one "keep" x) = .one w x := by
      show ∃ w, (if decide (pre ∈ S) = true ∧ ("keep" : Str) = "keep" then Hd.one "once" x else Hd.one "keep" x) = .one w x
      split
      · exact ⟨_, rfl⟩
      · exact ⟨_, rfl⟩
    obtain ⟨w, e3⟩ := e3
    refine ⟨w, Tr.rw S (pre ++ [((0 : Nat) : Int)]) b, ?_, ?_⟩
    · show some (Tr.mk (reword (decide (pre ∈ S)) (.one "keep" x)) [Tr.rw S (pre ++ [((0 : Nat) : Int)]) b]) = _
      rw [e3]
    · rw [e2]
      rfl
  | i :: r, pre, .mk h ps, x, b, e => by
    have e' : (if 0 ≤ i then (ps[i.toNat]?).bind (Tr.at r) else none) = some (.mk (.one "keep" x) [b]) := e
    have h0 : 0 ≤ i := by
      by_cases q : 0 ≤ i
      · exact q
      · rw [if_neg q] at e'
        cases e'
    obtain ⟨m, rfl⟩ : ∃ m : Nat, i = (m : Int) := ⟨i.toNat, by omega⟩
    rw [if_pos h0, Int.toNat_natCast] at e'
    cases ec : ps[m]? with
    | none => rw [ec] at e'; cases e'
    | some c =>
      rw [ec] at e'
      obtain ⟨w, b', g1, g2⟩ := put_rw r (pre ++ [(m : Int)]) c x b e'
      have er : (Tr.rwL S pre 0 ps)[m]? = some (Tr.rw S (pre ++ [(m : Int)]) c) := by rw [rwL_at, ec, Nat.zero_add]; rfl
      refine ⟨w, b', ?_, ?_⟩
      · show (if 0 ≤ (m : Int) then ((Tr.rwL S pre 0 ps)[(m : Int).toNat]?).bind (Tr.at r) else none) = _
        rw [if_pos h0, Int.toNat_natCast, er]
        exact g1
      · show (match (Tr.rwL S pre 0 ps)[(m : Int).toNat]? with | some p => Tr.mk (reword (decide (pre ∈ S)) h) ((Tr.rwL S pre 0 ps).set (m : Int).toNat (Tr.put r p _)) | none => _) = _
        rw [Int.toNat_natCast, er]
        show Tr.mk (reword (decide (pre ∈ S)) h) ((Tr.rwL S pre 0 ps).set m (Tr.put r (Tr.rw S (pre ++ [(m : Int)]) c) (.mk (.one "once" x) [b']))) = Tr.mk (reword (decide (pre ∈ S ++ [pre ++ (m : Int) :: r])) h) (Tr.rwL (S ++ [pre ++ (m : Int) :: r]) pre 0 ps)
        rw [g2]
        have e1 : decide (pre ∈ S ++ [pre ++ (m : Int) :: r]) = decide (pre ∈ S) := by
          have n : pre ≠ pre ++ (m : Int) :: r := fun e => by
            have := congrArg List.length e
            simp at this
          simp [n]
        rw [e1]
        congr 1
        have hm : m < ps.length := (List.getElem?_eq_some_iff.mp ec).1
        refine List.ext_getElem? fun j => ?_
        rw [rwL_at]
        by_cases q : j = m
        · subst q
          rw [List.getElem?_set_self (by rw [rwL_len]; exact hm), ec, Nat.zero_add, List.append_assoc]
          rfl
        · rw [List.getElem?_set_ne (Ne.symm q), rwL_at]
          cases ej : ps[j]? with
          | none => rfl
          | some d =>
            show some _ = some _
            rw [rw_irrel d (pre ++ [((0 + j : Nat) : Int)]) fun r' z => q ?_]
            rw [List.append_assoc] at z
            have z2 := List.append_cancel_left z
            simp at z2
            omega
end Cm

/-! paths as data: equality, being in a list -/
namespace Cm
open PySem L2 PySem.Spec PyProof.Rows
theorem eqvAll_intsP : ∀ a b : List Int, PyData.eqvAll (a.map PyData.int) (b.map PyData.int) = decide (a = b)
  | [], [] => by simp [PyData.eqvAll]
  | [], b :: bs => by simp [PyData.eqvAll]
  | a :: as, [] => by simp [PyData.eqvAll]
  | a :: as, b :: bs => by
    have ih := eqvAll_intsP as bs
    simp only [List.map_cons, PyData.eqvAll, PyData.eqv, ih]
    by_cases h : a = b
    · by_cases h2 : as = bs <;> simp [h, h2]
    · simp [h]
theorem eqv_path (a b : List Int) : PyData.eqv (pathI a) (pathI b) = decide (a = b) := by
  have := eqvAll_intsP a b
  simp only [pathI, PyData.eqv]
  exact this
theorem any_path (S : List (List Int)) (p : List Int) : ((S.map pathI).any fun z => PyData.eqv z (pathI p)) = decide (p ∈ S) := by
  induction S with
  | nil => rfl
  | cons s S ih =>
    rw [List.map_cons, List.any_cons, ih, eqv_path]
    by_cases h : s = p
    · simp [h]
    · have : ¬ p = s := fun z => h z.symm
      simp [h, this]
theorem lay_path (p : List Int) : Lay 1 (pathI p) := Lay.tup (n := 0) fun d hd => by
  obtain ⟨i, _, rfl⟩ := List.mem_map.mp hd
  exact .int i 0
theorem lay_paths (S : List (List Int)) : Lay 2 (.list (S.map pathI)) := Lay.lst fun d hd => by
  obtain ⟨i, _, rfl⟩ := List.mem_map.mp hd
  exact lay_path i
theorem lay_pathsT (S : List (List Int)) : Lay 2 (.tuple (S.map pathI)) := Lay.tup fun d hd => by
  obtain ⟨i, _, rfl⟩ := List.mem_map.mp hd
  exact lay_path i
theorem ko_notInD {X : Cx} {K : PySem.W.Frag} (hu : X.A.units + 65 < cLine) (h : X.K = K := by rfl) : OpR X (compareOp .NotIn) (rNotInD K) := by subst h; exact op_notInD hu
theorem ko_inD {X : Cx} {K : PySem.W.Frag} (hu : X.A.units + 65 < cLine) (h : X.K = K := by rfl) : OpR X (compareOp .In) (rInD K) := by subst h; exact op_inD hu
def rListOf (K : PySem.W.Frag) : List V → Hp → VK → Prop := fun xs H Q => ∃ p ys, xs = [.ref p] ∧ (SqL K H p ys ∨ SqT K H p ys) ∧ ∀ l, H l = Option.none → Q (.ref l) (upd H l (.lst ys))
theorem kc_listOf {X : Cx} {K : PySem.W.Frag} (h : X.K = K := by rfl) : CallR X (.type "list") (rListOf K) := by subst h; exact call_list_of
theorem room65 {k : Nat} {A : Around} (r : Room k A) : A.units + 65 < cLine := by have := r.un; omega
end Cm

namespace K06
open PySem L2 Cm
/-! things by births, as data -/
inductive W where
  | int (i : Int)
  | con (c : Str)
  | ref (w : Str) (b : Int)
def W.enc : W → PyData
  | .int i => .int i
  | .con c => .tuple [.str c]
  | .ref w b => .tuple [.str w, .int b]
def W.refs : W → List Int
  | .ref _ b => [b]
  | _ => []
inductive Rd where
  | to (fs : List Int) (k : Int)
  | on (fs : List Int)
  | off
  | out
def intsT (fs : List Int) : PyData := .tuple (fs.map PyData.int)
def Rd.enc : Rd → PyData
  | .to fs k => .tuple [.str "to", intsT fs, .int k]
  | .on fs => .tuple [.str "on", intsT fs]
  | .off => .tuple [.str "off"]
  | .out => .tuple [.str "out"]
def Rd.row : Rd → List Int
  | .to fs _ => fs
  | .on fs => fs
  | _ => []
inductive Tn where
  | pair (a b : W)
  | wind (a b : W)
  | fn (n : Int) (vs : List W)
  | wait (n : Int) (vs : List W)
  | keep (fs : List Int)
  | piece (fs : List Int)
  | once (fs : List Int) (u : Int)
  | pass (b : Int)
  | give (r : Rd) (w : W)
  | call (r : Rd) (w : W) (vs : List W)
  | mark
def wsT (vs : List W) : PyData := .tuple (vs.map W.enc)
def Tn.enc : Tn → PyData
  | .pair a b => .tuple [.str "pair", a.enc, b.enc]
  | .wind a b => .tuple [.str "wind", a.enc, b.enc]
  | .fn n vs => .tuple [.str "fun", .int n, wsT vs]
  | .wait n vs => .tuple [.str "wait", .int n, wsT vs]
  | .keep fs => .tuple [.str "keep", intsT fs]
  | .piece fs => .tuple [.str "piece", intsT fs]
  | .once fs u => .tuple [.str "once", intsT fs, .int u]
  | .pass b => .tuple [.str "pass", .int b]
  | .give r w => .tuple [.str "way", r.enc, .tuple [.str "give", w.enc]]
  | .call r w vs => .tuple [.str "way", r.enc, .tuple [.str "call", w.enc, wsT vs]]
  | .mark => .tuple [.str "mark"]
/-- the row of a thing, if it has one -/
def Tn.row : Tn → Option (List Int)
  | .keep fs => some fs
  | .piece fs => some fs
  | .once fs _ => some fs
  | .give (.to fs _) _ => some fs
  | .give (.on fs) _ => some fs
  | .call (.to fs _) _ _ => some fs
  | .call (.on fs) _ _ => some fs
  | _ => none
/-- its values -/
def Tn.ws : Tn → List W
  | .pair a b => [a, b]
  | .wind a b => [a, b]
  | .fn _ vs => vs
  | .wait _ vs => vs
  | .give _ w => [w]
  | .call _ w vs => w :: vs
  | _ => []
/-- the births that it names -/
def Tn.nm : Tn → List Int
  | .pass b => [b]
  | t => (t.row.getD []) ++ t.ws.flatMap W.refs
/-- how many parts at most -/
def Tn.sz (t : Tn) : Prop := (∀ fs, t.row = some fs → fs.length ≤ 20) ∧ t.ws.length ≤ 20
theorem flat_W (w : W) : flatD w.enc = true := by cases w <;> rfl
theorem flat_wsT (vs : List W) : flatD (wsT vs) = true := flatDs_of _ fun d m => by
  obtain ⟨w, _, rfl⟩ := List.mem_map.mp m
  exact flat_W w
theorem flat_intsT (fs : List Int) : flatD (intsT fs) = true := flatDs_of _ fun d m => by
  obtain ⟨w, _, rfl⟩ := List.mem_map.mp m
  rfl
theorem flat_Rd (r : Rd) : flatD r.enc = true := by
  cases r <;> simp [Rd.enc, flatD, flatDs, flat_intsT]
theorem flat_Tn (t : Tn) : flatD t.enc = true := by
  cases t <;> simp [Tn.enc, flatD, flatDs, flat_intsT, flat_wsT, flat_W, flat_Rd]
theorem dp_ints_inv {K : PySem.W.Frag} {H : Hp} {v : V} {fs : List Int} (h : Dp K H v (intsT fs)) : ∃ a, v = .ref a ∧ SqT K H a (fs.map V.int) := by
  obtain ⟨a, us, rfl, hs, ha⟩ := dp_tup h
  rw [dpAll_ints_inv ha] at hs
  exact ⟨a, rfl, hs⟩
theorem dp_ints {K : PySem.W.Frag} {H : Hp} {a : Addr} {fs : List Int} (h : SqT K H a (fs.map V.int)) : Dp K H (.ref a) (intsT fs) := .tup h (dpAll_ints fs)
/-- the births in values -/
def spBi (K : PySem.W.Frag) : Sp := fun vs H Q _ => ∃ (a : Addr) (us : List V) (ws : List W), vs = [.ref a] ∧ SqT K H a us ∧ DpAll K H us (ws.map W.enc) ∧ ws.length ≤ 1000 ∧ ∀ (r : Addr) (H' : Hp), Same H H' → H r = none → H' r = some (.lst ((ws.flatMap W.refs).map V.int)) → Q (.ref r) H'
section
variable {P : Program} {w : World} {K : PySem.W.Frag} {mg : Str → Option Value} {base : Heap}
abbrev s_p_births_in : Stmt := top 6
abbrev N_p_births_in : List Str := ["worths", "worth"]
theorem sc_p_births_in : FnScope N_p_births_in ["worths"] (defScope s_p_births_in) := ⟨rfl, rfl, rfl, by decide +kernel, rfl, by decide +kernel, by decide +kernel⟩
theorem range_refs (ws : List W) : (List.range ws.length).filterMap (fun i => (ws[i]?).bind fun w => match w with | .ref _ b => some (PyData.int b) | _ => none) = (ws.flatMap W.refs).map PyData.int := by
  induction ws with
  | nil => rfl
  | cons a l ih =>
    rw [List.length_cons, List.range_succ_eq_map, List.filterMap_cons, List.flatMap_cons, List.map_append, ← ih, List.filterMap_map]
    cases a <;> rfl
theorem ok_births_in (T : Txt mg) (D : At K mg "births_in" s_p_births_in ["worths"]) : Cl P w K mg base 1 "births_in" (spBi K) := by
  refine cl_of D sc_p_births_in (fun vs H Q E h => ?_) fun f cdv A outer s H vs Q E hr h => ?_
  · obtain ⟨a, us, ws, rfl, _⟩ := h
    rfl
  · obtain ⟨a, us, ws, rfl, hs, hd, hl, k⟩ := h
    refine ⟨_, (pss_one (ps_ret (pe_lc (own := [("worth", 1)]) rfl sc_p_births_in.nd (pi_tup (pv 0)) (blkOk_by (N := N_p_births_in) (sc := defScope s_p_births_in) (by decide +kernel))
      (fun _ _ _ _ _ => (pg_name (i := 1) sc_p_births_in.nd rfl (Or.inl rfl)))
      (fun _ _ _ _ _ => (pts_one (PW.pt (pw_and (pt_val (pe_callB (kc_isi (K := K)) (by rfl) T.isinstance (by decide +kernel) (pa_cons (pv 1) (pa_cons (pe_bltn (v := .ty "tuple") (by rfl) T.tuple (by rfl) (show RelV (.ty "tuple") (.type "tuple") from rfl)) pa_nil)))) (pw_and1 (pt_cmpR op_eq (pe_callB (kc_len (K := K)) (by rfl) T.len (by decide +kernel) (pa_cons (pv 1) pa_nil)) pe_int (nomark _)))))))
      (fun _ _ _ _ _ => (pe_ix (kx_tup (K := K)) (pv 1) pe_int (fun _ _ => rfl)))))), ?_⟩
    have hul := DpAll.len hd
    rw [List.length_map] at hul
    refine ⟨_, rfl, a, rfl, ⟨_, hs⟩, fun D hD => ?_⟩
    refine lc_data (K := K) (walk_tup (K := K) (a := a) (xs := us)) (fun i => (ws[i]?).bind fun w => match w with | .ref _ b => some (PyData.int b) | _ => none) hD (by omega) (fun H' s => sqt_same s hs) (fun i _ d e => ?_) ?_ ?_
    · obtain ⟨w', _, e⟩ := Option.bind_eq_some_iff.mp e
      cases w' with
      | ref x b => cases e; rfl
      | _ => cases e
    · rintro i x H1 H2 hi s1 ⟨rfl, ex⟩ Q1 Q0 q1 q0
      obtain ⟨d, g1, g2⟩ := DpAll.atV hd ex
      obtain ⟨w', ew, rfl⟩ := map_at g1
      have g3 := dp_same s1 _ _ g2
      refine ⟨rfl, ?_⟩
      cases w' with
      | int n =>
        cases g3
        refine ⟨_, rfl, _, _, _, _, false, rfl, .ty _, .base (.int _), rfl, _, rfl, ?_⟩
        exact iteF (q0 _ (by rw [ew]; rfl) (Same.refl _))
      | con c =>
        obtain ⟨b, vs, rfl, hb, hvs⟩ := dp_tup g3
        refine ⟨_, rfl, _, _, _, _, true, rfl, .ty _, tyx_tup hb, kit_tup, _, rfl, ?_⟩
        have hl1 := DpAll.len hvs
        refine iteT ⟨_, rfl, b, vs, rfl, .inr hb, rfl, _, rfl, ?_⟩
        rw [show vs.length = 1 from hl1]
        exact iteF (q0 _ (by rw [ew]; rfl) (Same.refl _))
      | ref x n =>
        obtain ⟨b, vs, rfl, hb, hvs⟩ := dp_tup g3
        refine ⟨_, rfl, _, _, _, _, true, rfl, .ty _, tyx_tup hb, kit_tup, _, rfl, ?_⟩
        have hl1 := DpAll.len hvs
        refine iteT ⟨_, rfl, b, vs, rfl, .inr hb, rfl, _, rfl, ?_⟩
        rw [show vs.length = 2 from hl1]
        obtain ⟨v1, e1, h1⟩ := DpAll.at hvs (i := 1) (d := .int n) rfl
        cases h1
        exact iteT ⟨_, rfl, b, vs, _, _, rfl, rfl, hb, atI_nat (j := 1) e1, q1 _ _ (.int n) (by rw [ew]; rfl) (Same.refl _) (.int _)⟩
    · intro H1 acc s1 hacc ha
      rw [hul, range_refs] at ha
      have := dpAll_ints_inv ha
      subst this
      exact k D H1 s1 hD hacc
end
end K06

namespace K06
open PySem L2 Cm
/-- of any type that is known: is it int and not bool -/
def spWhole (K : PySem.W.Frag) : Sp := fun vs H Q _ => ∃ (v : V) (t : Value) (b1 b2 : Bool), vs = [v] ∧ TyX K H v t ∧ PySem.W.kitOne K t (.type "int") = some b1 ∧ PySem.W.kitOne K t (.type "bool") = some b2 ∧ Q (.bl (b1 && !b2)) H
section
variable {P : Program} {w : World} {K : PySem.W.Frag} {mg : Str → Option Value} {base : Heap}
abbrev s_p_is_whole : Stmt := top 14
abbrev N_p_is_whole : List Str := ["thing"]
theorem sc_p_is_whole : FnScope N_p_is_whole ["thing"] (defScope s_p_is_whole) := ⟨rfl, rfl, rfl, by decide +kernel, rfl, by decide +kernel, by decide +kernel⟩
theorem ok_is_whole (T : Txt mg) (tb : mg "bool" = none) (D : At K mg "is_whole" s_p_is_whole ["thing"]) : Cl P w K mg base 1 "is_whole" (spWhole K) := by
  refine cl_of D sc_p_is_whole (fun vs H Q E h => ?_) fun f cdv A outer s H vs Q E hr h => ?_
  · obtain ⟨v, t, b1, b2, rfl, _⟩ := h
    rfl
  · obtain ⟨v, t, b1, b2, rfl, ty, k1, k2, k⟩ := h
    refine ⟨_, (pss_one (ps_ret (pe_and (pe_callB call_isi (by rfl) T.isinstance (by decide +kernel) (pa_cons (pv 0) (pa_cons (pe_bltn (v := .ty "int") (by rfl) T.int (by rfl) (show RelV (.ty "int") (.type "int") from rfl)) pa_nil))) (pe_one (pe_not (pe_callB call_isi (by rfl) T.isinstance (by decide +kernel) (pa_cons (pv 0) (pa_cons (pe_bltn (v := .ty "bool") (by rfl) tb (by rfl) (show RelV (.ty "bool") (.type "bool") from rfl)) pa_nil)))))))), ?_⟩
    refine ⟨_, rfl, _, _, _, _, b1, rfl, .ty _, ty, k1, _, rfl, ?_⟩
    cases b1 with
    | false => exact iteF k
    | true => exact iteT ⟨_, rfl, _, _, _, _, b2, rfl, .ty _, ty, k2, _, rfl, k⟩
end
end K06

/-! an exception that is caught and kept as a value -/
namespace Cm
open PySem L2 PySem.Spec PyProof.Rows
/-- an exception object at a: its class, its dict -/
def ExH (a : Addr) (cls : Value) (d : Option Addr) : HO := .ext fun h => ∃ (o : Obj) (vs : Array Value), h.get? a = some o ∧ Zc cls d o ∧ o.data = .fields vs
theorem exH_ok {P : Program} {w : World} {H : Hp} {h : Heap} {a : Addr} {cls : Value} {d : Option Addr} {o : Obj} {vs : Array Value} (e : h.get? a = some o) (z : Zc cls d o) (f : o.data = .fields vs) : ObjOk P w H h a (ExH a cls d) :=
  ⟨⟨o, vs, e, z, f⟩, ⟨o, e⟩, fun h1 h2 ⟨o', vs', e', z', f'⟩ k => ⟨o', vs', k _ e', z', f'⟩⟩
theorem exH_at {P : Program} {w : World} {H : Hp} {h : Heap} {a : Addr} {cls : Value} {d : Option Addr} (hok : HOk P w H h) (e : H a = some (ExH a cls d)) : ∃ (o : Obj) (vs : Array Value), h.get? a = some o ∧ Zc cls d o ∧ o.data = .fields vs := by
  have x : ObjOk P w H h a (ExH a cls d) := hok a _ e
  exact x.1
section
variable {X : Cx} {pins : List (Addr × Obj)} {σ : L2.St} {H : Hp} {s : Shared}
theorem track {a : Addr} {o : HO} (I : Inv X pins σ H s) (na : H a = Option.none) (n0 : X.s_0.heap.get? a = Option.none) (nL : a ≠ X.env.locals) (nC : ∀ x c, X.env.cells.lookup x = some c → c ≠ a) (nP : ∀ p ∈ X.pn ++ pins, p.1 ≠ a)
    (new : ObjOk X.prog X.w (upd H a o) s.heap a o) : Inv X pins σ (upd H a o) s := by
  have other : ∀ {b : Addr} {u : HO}, H b = some u → (upd H a o) b = some u := fun {b u} e => by
    rw [upd_ne (ne_of_none e na)]
    exact e
  refine ⟨I.ok, I.os, I.bare, ⟨I.base.keep, I.base.slot, fun b u e n hx => ?_, I.base.there, fun b xs e => other (I.base.tups b xs e), fun b u xs e => other (I.base.frzs b u xs e), fun b ps e => ?_⟩, I.loc, I.cell, ?_, fun x c e => ?_, fun p hp => ?_, fun b u e => ?_, I.len⟩
  · have hb : b ≠ a := fun z => by
      rw [z, n0] at e
      cases e
    rw [upd_ne hb]
    exact I.base.free b u e n hx
  · obtain ⟨more, q⟩ := I.base.tbls b ps e
    exact ⟨more, other q⟩
  · rw [upd_ne nL.symm]
    exact I.free
  · rw [upd_ne (nC x c e)]
    exact I.freeC x c e
  · obtain ⟨e, n, ne, nf, dd⟩ := I.pin p hp
    exact ⟨e, by rw [upd_ne (nP p hp)]; exact n, ne, nf, dd⟩
  · by_cases hb : b = a
    · subst hb
      rw [upd_same] at e
      cases e
      exact new
    · rw [upd_ne hb] at e
      exact (I.hok b u e).stay (fun c v _ q => q) (fun c q => other q) fun c xs q => other q
theorem suite0 (I : Inv X pins σ H s) (a : Addr) : Inv (X.suite a (X.pn ++ pins)) [] σ H s :=
  ⟨I.ok.suite _ _, I.os, I.bare, I.base, I.loc, I.cell, I.free, I.freeC, fun p hp => I.pin p (by rw [List.append_nil] at hp; exact hp), I.hok, I.len⟩
theorem unsuite0 {a : Addr} {pn' : List (Addr × Obj)} (I : Inv (X.suite a (X.pn ++ pins)) pn' σ H s) (ok : X.Ok) : Inv X pins σ H s :=
  ⟨ok, I.os, I.bare, I.base, I.loc, I.cell, I.free, I.freeC, fun p hp => I.pin p (List.mem_append_left _ hp), I.hok, I.len⟩
end
/-- what the clause asks where the caught exception is kept -/
def wHeld (K : PySem.W.Frag) (c : Value) (i : Nat) (ts : Addr → TS) (D : Ends) : WX := fun cls d σ H =>
  PySem.W.exmOne K cls c = some true ∧ ∀ a, H a = Option.none → ts a { nx := fun σ' H' => D.nx (σ'.set i Option.none) H', rt := D.rt, bk := fun σ' H' => D.bk (σ'.set i Option.none) H', ct := fun σ' H' => D.ct (σ'.set i Option.none) H' } (σ.set i (some (.ref a))) (upd H a (ExH a cls d))
section
variable {X : Cx} {x n : Str} {c : Value} {i : Nat} {body suite : List Stmt} {b₀ : Stmt} {np pos pos' : Pos} {tb : WX → TS} {ts : Addr → TS}
theorem ps_try_held (hs : X.stack = X.env :: X.outer) (hf : X.env.frame = some X.env.locals) (hN : X.N.Nodup) (hi : X.N[i]? = some n) (hln : X.env.kindOf n = some .local) (hc : Names X x c) (hex : X.ex = [])
    (hb : ∀ (W : WX) (pn : List (Addr × Obj)) (xe : Value → Shared → Prop), Takes (X.tr pn xe) W → PassesOwn (model X.prog X.w) X.A X.env xe → PSs (X.tr pn xe) body (tb W))
    (hsu : ∀ (a : Addr) (pn : List (Addr × Obj)), PSs (X.suite a pn) (b₀ :: suite) (ts a)) :
    PS X (.Try body [.ExceptHandler (some (.Name x np)) (some n) (b₀ :: suite) pos'] [] [] pos) (fun D σ H => tb (wHeld X.K c i ts D) D σ H) := by
  refine ⟨fun pins s σ H D I h => ?_⟩
  have ok := I.ok
  have hfr : X.A.frames = some (X.env :: X.outer) := by rw [ok.frames, hs]
  refine wpAny_Try_except ?_
  refine wpAny_mono ((hb (wHeld X.K c i ts D) (X.pn ++ pins) (fun e s₁ => wpAny (model X.prog X.w) X.A (noteFrame e X.env) (fun _ s₂ => wpAny (model X.prog X.w) X.A (setFlight e Option.none) (fun _ s₃ =>
    wpAny (model X.prog X.w) X.A (handleBy e X.env [.ExceptHandler (some (.Name x np)) (some n) (b₀ :: suite) pos']) (SP X pins D) X.xe s₃) X.xe s₂) X.xe s₁) (fun u s' xx => ?_) PassesOwn.looking).run [] s σ H D (I.toTry _) h) (fun f s1 hsp => ?_) (fun e s1 he => he)
  · obtain ⟨a, B, sI, pins', σ', H', cls, d, rfl, J', nb, up, sky, na, os, ag, hb1, hyes⟩ := xx
    have J : Inv X pins σ' H' sI := J'.ofTry ok
    have sky' : Sky B (X.env :: X.outer) a (Zc cls d) X.env.locals s'.heap := by rw [← hs]; exact sky
    show wpAny _ _ (noteFrame (.ref a) X.env) _ _ _
    refine Sky.land Zc.steady hfr hf sky' fun h3 fl3 up3 => ?_
    have J3 : Inv X pins σ' H' { s' with heap := h3 } := J.landed nb fl3.1 (up.trans up3) os ag
    obtain ⟨oe3, vs3, he3, hz3, hd3⟩ := fl3.there
    have nfr : a ∉ frs X.stack := fun hm => by
      rw [hs] at hm
      obtain ⟨_, o', e', hnf⟩ := fl3.2.2.1.mem hm
      rw [he3] at e'
      cases e'
      exact hnf _ hd3
    have nsI : sI.heap.get? a = Option.none := by
      cases q : sI.heap.get? a with
      | none => rfl
      | some o =>
        have z := nb a o q nfr
        rw [fl3.2.1] at z
        cases z
    have n0 : X.s_0.heap.get? a = Option.none := by
      cases q : X.s_0.heap.get? a with
      | none => rfl
      | some o =>
        obtain ⟨o', z⟩ := J.base.there a o q (by rw [hex]; exact List.not_mem_nil)
        rw [nsI] at z
        cases z
    have nL : a ≠ X.env.locals := fun z => nfr (by
      rw [hs]
      exact List.mem_filterMap.mpr ⟨X.env, List.mem_cons_self, by rw [hf, z]⟩)
    have nC : ∀ y c, X.env.cells.lookup y = some c → c ≠ a := fun y c e z => by
      obtain ⟨v, o, ho, _⟩ := J.cell y c e
      rw [z, nsI] at ho
      cases ho
    have nP : ∀ p ∈ X.pn ++ pins, p.1 ≠ a := fun p hp z => by
      have q := (J.pin p hp).1
      rw [z, nsI] at q
      cases q
    have S3 := suite0 J3 a
    refine wpAny_handleBy_cons (codeAny_handlers_test ?_) (by intro q; cases q)
    have LT : PySem.W.Looks (model X.prog X.w) h3 (typeOf (.ref a)) cls := fun A Q E s k q => wpAny_typeOf_ref (k _ _ he3) (by rw [hz3.1]; exact q)
    have LM := PySem.W.exm_one (M := model X.prog X.w) (J3.kIn) LT hb1
    have test : ∀ {Q : Value → Shared → Prop} {E : Value → Shared → Prop}, Q c { s' with heap := h3 } → wpAny (model X.prog X.w) (X.A.mark (some (.ref a))) (eval (.Name x np) X.env) Q E { s' with heap := h3 } := fun {Q E} q => by
      obtain ⟨hg, hdbg, hm | ⟨hm, hv, hnn⟩⟩ := hc
      · exact ld_glob (X := X.suite a (X.pn ++ pins)) S3 hg hm q hdbg
      · exact ld_blt (X := X.suite a (X.pn ++ pins)) S3 hg hm hv q hnn hdbg
    refine test (LM.here ?_)
    refine codeAny_handlers_suite_as ?_
    refine HandSPX.lands_againZ fl3 fun h4 fl4 up4 => ?_
    have J4 : Inv X pins σ' H' { s' with heap := h4 } := J.landed nb fl4.1 ((up.trans up3).trans up4) os ag
    obtain ⟨oe4, vs4, he4, hz4, hd4⟩ := fl4.there
    have T4 := track (o := ExH a cls d) J4 na n0 nL nC nP (exH_ok he4 hz4 hd4)
    have S4 := suite0 T4 a
    refine store_ok (X := X.suite a (X.pn ++ pins)) (v := .ref a) S4 hN hi (.inl hln) rfl (fun s5 S5 => ?_) (.inr hln)
    refine wpAny_mono ((hsu a (X.pn ++ pins)).run [] s5 _ _ _ S5 (hyes a na)) (fun f s6 hsp => ?_) (fun _ _ z => False.elim z)
    have end_ : ∀ {σ6 : L2.St} {H6 : Hp} {Q : Shared → Prop}, Inv (X.suite a (X.pn ++ pins)) [] σ6 H6 s6 → (∀ s7, Inv X pins (σ6.set i Option.none) H6 s7 → Q s7) →
        wpAny (model X.prog X.w) X.A (do bindName X.env n .none; unbindBehindTheSuite X.env n pos') (fun _ s7 => Q s7) X.xe s6 := fun {σ6 H6 Q} S6 hq => gone_ok (unsuite0 S6 ok) hN hi hln hq
    cases f with
    | next =>
      obtain ⟨σ6, H6, S6, q6⟩ := hsp
      exact end_ S6 fun s7 J7 => ⟨_, _, J7, q6⟩
    | brk =>
      obtain ⟨σ6, H6, S6, q6⟩ := hsp
      exact end_ S6 fun s7 J7 => ⟨_, _, J7, q6⟩
    | cont =>
      obtain ⟨σ6, H6, S6, q6⟩ := hsp
      exact end_ S6 fun s7 J7 => ⟨_, _, J7, q6⟩
    | ret u =>
      obtain ⟨v6, σ6, H6, S6, r6, q6⟩ := hsp
      exact end_ S6 fun s7 J7 => ⟨_, _, _, J7, r6, q6⟩
  · cases f with
    | next =>
      obtain ⟨σ', H', J', q⟩ := hsp
      exact wpAny_execs_nil ⟨σ', H', J'.ofTry ok, q⟩
    | brk =>
      obtain ⟨σ', H', J', q⟩ := hsp
      exact ⟨σ', H', J'.ofTry ok, q⟩
    | cont =>
      obtain ⟨σ', H', J', q⟩ := hsp
      exact ⟨σ', H', J'.ofTry ok, q⟩
    | ret u =>
      obtain ⟨v, σ', H', J', r, q⟩ := hsp
      exact ⟨v, σ', H', J'.ofTry ok, r, q⟩
end
/-! ### isinstance(x, C), x a kept exception of just that class -/
theorem ans_same {x t : Value} {P : Heap → Prop} (ty : ∀ (M : Model) (h : Heap), P h → PySem.W.Looks M h (typeOf x) t) : Answers (fun s => P s.heap) x t true := by
  intro dep tk prog w A R s hs
  obtain ⟨h0, g, d, tt, os⟩ := s
  obtain ⟨p, hq⟩ := hs
  have LT := ty (model prog w) h0 p
  unfold Builtin.«isinstance.nested»
  refine wpAny_bind (LT.at ?_)
  have q : (t == t) = true := beq_self_eq_true t
  rw [if_pos q]
  first
    | exact wpAny_bind (wpAny_rule (hq tt))
    | exact wpAny_bind (wpAny_rule (wpAny_pure (hq tt)))
    | exact wpAny_pure (hq tt)
def rIsX : List V → Hp → VK → Prop := fun xs H Q => ∃ (a C : Addr) (d : Option Addr), xs = [.ref a, .ref C] ∧ H a = some (ExH a (.ref C) d) ∧ Q (.bl true) H
theorem call_isX {X : Cx} : CallR X (.builtin "isinstance") rIsX := by
  intro pins s σ H xs us Q I r h
  obtain ⟨a, C, d, rfl, e, q⟩ := h
  obtain ⟨u1, u2, rfl, r1, r2⟩ := vals2 r
  obtain rfl : u1 = Value.ref a := r1
  obtain rfl : u2 = Value.ref C := r2
  obtain ⟨o, vs, ho, z, f⟩ := exH_at I.hok e
  refine call_isinstance (S := fun _ R s => (∃ o, s.heap.get? a = some o ∧ o.cls = .ref C) ∧ ∀ tk, R (.ok (.ret (.bool true))) { s with toks := tk })
    (fun prog w A R s hs => isinstance_outer (ans_same (P := fun h => ∃ o, h.get? a = some o ∧ o.cls = .ref C) (fun M h ⟨o, e, c⟩ => fun A Q E s k q => wpAny_typeOf_ref (k _ _ e) (by rw [c]; exact q)) 0 _ prog w A R s hs) (fun z => nomatch z)) ⟨⟨o, ho, z.1⟩, fun tk => ⟨.bl true, H, I.tok tk, rfl, q⟩⟩
/-! ### x.f, x a kept exception -/
def tFldX (K : PySem.W.Frag) (f : Str) (te : TE) : TE := fun σ H Q => te σ H fun x H1 => ∃ (a C dd : Addr) (fs : List (Str × V)) (v : V), x = .ref a ∧ XfC K C ∧ PySem.W.findIn K (.ref C) f = some Option.none ∧ H1 a = some (ExH a (.ref C) (some dd)) ∧ H1 dd = some (.xd fs) ∧ fs.lookup f = some v ∧ Q v H1
theorem pe_fldX {X : Cx} {e : Expr} {te : TE} {pos : Pos} {n : Str} (he : PE X e te) (hb : attributeBase e n X.env (eval e X.env) = eval e X.env := by rfl) : PE X (.Attribute e n pos) (tFldX X.K n te) := by
  refine ⟨fun pins s σ H Q I h => ?_⟩
  refine attr_of hb (thn (he.run pins s σ H _ I h) fun u s1 hh => ?_)
  obtain ⟨x, H1, I1, rx, a, C, dd, fs, v, ex, T, hno, eh, ea, l, q⟩ := hh
  subst ex
  obtain rfl : u = Value.ref a := rx
  obtain ⟨oe, vs, ha, hz, hd⟩ := exH_at I1.hok eh
  have hx : ObjOk X.prog X.w H1 s1.heap dd (.xd fs) := I1.hok dd _ ea
  obtain ⟨mA, hns, hr⟩ := hx
  obtain ⟨od, ho, hl⟩ := lookIn_ns hns
  obtain ⟨u, hu, ru⟩ := RelO.some_of (v := v) (o := mA n) (by rw [← l]; exact hr n)
  have J : PySem.W.InstAt s1.heap a oe C (some od) := ⟨ha, hz.1, by unfold PySem.W.notCls; rw [hd] <;> rfl, by rw [hz.2]; exact ho⟩
  exact HandSPX.exc_get I1.kIn J T.ga T.gg T.exC (PySem.W.findObj_own T.hdC hno rfl (by rw [hl, hu])) (handed_of ru) ⟨v, H1, I1.tok _, ru, q⟩
end Cm

set_option linter.all false
/-! a tuple times 0, 1, 2, .. -/
namespace L2
open PySem PySem.Spec PyProof.Rows
theorem tuple_mul1 (l : Addr) (items : Array Value) (n : Nat) (dd : Option Addr) (sl : Array (Option Value)) (u : Tok) :
    Meets (Builtin.«tuple.__mul__» ⟨[.ref l, .int 1 u], []⟩) (fun _ R s => s.heap.get? l = some { cls := .type "tuple", dict := dd, data := .seq items n, slots := sl } ∧ R (.ok (.ret (Value.ref l))) s) :=
  .of_wp fun prog w A R s h => by
    obtain ⟨hp, g, d, tk, os⟩ := s
    obtain ⟨hl, h⟩ := h
    have f1 := AutoSeq1.idx_int
    wp_walk using wpAny_loadPart' hl
    exact ⟨_, rfl, h⟩
theorem tuple_mul0 (l : Addr) (items : Array Value) (n : Nat) (dd : Option Addr) (sl : Array (Option Value)) (u : Tok) (hne : items.isEmpty = false) :
    Meets (Builtin.«tuple.__mul__» ⟨[.ref l, .int 0 u], []⟩) (fun _ R s => s.heap.get? l = some { cls := .type "tuple", dict := dd, data := .seq items n, slots := sl } ∧
      R (.ok (.ret (Value.ref s.heap.objs.size))) { s with heap := s.heap.push { cls := Value.type "tuple", data := Data.seq #[] }, toks := s.toks }) :=
  .of_wp fun prog w A R s h => by
    obtain ⟨hp, g, d, tk, os⟩ := s
    obtain ⟨hl, h⟩ := h
    have f1 := AutoSeq1.idx_int
    have c1 : (items.isEmpty || (0 : Int) == 1) = false := by rw [hne]; rfl
    wp_walk using wpAny_loadPart' hl
    repeat (first
      | (refine wpAny_ite_false (decide_eq_false (by rw [c1]; exact Bool.false_ne_true)) ?_; wp_walk using wpAny_loadPart' hl)
      | (refine wpAny_ite_true (decide_eq_true (by simp)) ?_; wp_walk using wpAny_loadPart' hl))
    exact ⟨_, rfl, h⟩
def rRepA (K : PySem.W.Frag) : R2 := fun x y H Q => ∃ (l : Addr) (k : Nat) (xs : List V), x = .ref l ∧ y = .int (k : Nat) ∧ SqT K H l xs ∧ xs ≠ [] ∧ k ≤ 1000 ∧ xs.length ≤ 1000 ∧
  ∀ t H', Same H H' → SqT K H' t (List.replicate k xs).flatten → Q (.ref t) H'
theorem op_repA {X : Cx} : OpR X (binaryOp .Mult) (rRepA X.K) := by
  intro pins s σ H x y v u Q I rx ry h
  obtain ⟨l, k, xs, rfl, rfl, hT, hne, h2, hz, q⟩ := h
  by_cases hk : 2 ≤ k
  · refine op_repT pins s σ H _ _ v u Q I rx ry ⟨l, (k : Int), xs, rfl, rfl, hT, hne, by omega, by omega, hz, fun p hp => ?_⟩
    rw [Int.toNat_natCast]
    exact q p _ (Cm.same_new hp) (.inl (.inl upd_same))
  cases rx
  obtain ⟨t, rfl⟩ := ry
  obtain ⟨its, r, ⟨⟨cls, dd, data, sl⟩, ho, hc, n, hd⟩, hs⟩ := I.tuple hT
  simp only at hc hd
  subst hc hd
  have hi : its.toArray.isEmpty = false := by
    cases its with
    | nil =>
      have := r.length
      exact absurd (List.eq_nil_of_length_eq_zero this) hne
    | cons a b => rfl
  by_cases h1 : k = 1
  · subst h1
    refine wpAny_binaryOp_repeat_ref (T := "tuple") (U := "int") (by decide) ⟨_, ho, rfl⟩ (fun s' => typeIs_int s' 1 t) noFill_tuple_mul F.fills_int_mul F.slot_int_rmul repeat_tuple F.slot_int_index.lookup
      (call_meets F.slot_int_rmul (typeIs_int s 1 t) F.entry_int_rmul (F.args_int_rmul_2 _ _) (int_rmul_tuple 1 t l its.toArray n dd sl)
        ⟨ho, rfl, ⟨_, ho, rfl⟩, call_meets F.slot_tuple_mul ⟨_, ho, rfl⟩ F.entry_tuple_mul (F.args_tuple_mul_2 _ _) (tuple_mul1 l its.toArray n dd sl t) ⟨ho, ?_⟩⟩)
    refine ⟨.ref l, H, I, rfl, q l H (Same.refl H) ?_⟩
    have e : (List.replicate 1 xs).flatten = xs := by simp
    rw [e]
    exact hT
  · have h0 : k = 0 := by omega
    subst h0
    refine wpAny_binaryOp_repeat_ref (T := "tuple") (U := "int") (by decide) ⟨_, ho, rfl⟩ (fun s' => typeIs_int s' 0 t) noFill_tuple_mul F.fills_int_mul F.slot_int_rmul repeat_tuple F.slot_int_index.lookup
      (call_meets F.slot_int_rmul (typeIs_int s 0 t) F.entry_int_rmul (F.args_int_rmul_2 _ _) (int_rmul_tuple 0 t l its.toArray n dd sl)
        ⟨ho, rfl, ⟨_, ho, rfl⟩, call_meets F.slot_tuple_mul ⟨_, ho, rfl⟩ F.entry_tuple_mul (F.args_tuple_mul_2 _ _) (tuple_mul0 l its.toArray n dd sl t hi) ⟨ho, ?_⟩⟩)
    have hn := I.hok.fresh (Nat.le_refl s.heap.objs.size)
    refine ⟨.ref s.heap.objs.size, _, I.laid (t' := s.toks) (o := .tup []) (fun b ob q => Heap.get?_push_of_some _ q) (Nat.le_refl _) ?_, rfl, q _ _ (Cm.same_new hn) (.inl (.inl upd_same))⟩
    exact ⟨by show 0 ≤ sizeLine; rw [sizeLine_eq]; omega, [], .nil, IsTup.new _ _⟩
end L2

set_option linter.all false
/-! sorted of texts and of a dict with text keys, of any length; rows of texts in order -/
namespace Cm
open PySem L2 PySem.Spec PyProof.Rows
section
variable {X : Cx}
def rSortedSA (K : PySem.W.Frag) : List V → Hp → VK → Prop := fun vs H Q => ∃ (a : Addr) (xs : List Str), vs = [V.ref a] ∧ SqL K H a (xs.map V.str) ∧
  ∀ (ys : List Str) (p : Addr), ys.Perm xs → sortedS ys = true → H p = Option.none → Q (.ref p) (upd H p (.lst (ys.map V.str)))
theorem cr_sortedSA : CallR X (.builtin "sorted") (rSortedSA X.K) := by
  intro pins s σ H vs us Q I r h
  obtain ⟨a, xs, rfl, hs, q⟩ := h
  obtain ⟨its, rv, hl, hz⟩ := I.list hs
  rw [Vals.ref1 r]
  have hlen0 := rv.length
  rw [List.length_map] at hlen0 hz
  refine PyProof.Rows.sorted_strsAny hl.isList rv.strs (by rw [← hlen0]; exact hz) fun out ys h1 h2 h3 => ?_
  obtain ⟨ep, he'⟩ := PyProof.Rows.sortedAll_at s.heap its out
  have hlen : (ys.map V.str).length ≤ sizeLine := by rw [List.length_map, h2.length_eq]; exact hz
  exact ⟨.ref _, upd H (s.heap.objs.size + 1) (.lst (ys.map V.str)), I.laid (t' := s.toks) (fun _ _ => PyProof.Rows.sortedAll_old) (Nat.le_succ _) ⟨hlen, out.toList, ep, vals_of_strs h1, he'⟩, rfl, q ys _ h2 h3 (I.hok.fresh (Nat.le_succ _))⟩
def rSortedDA : List V → Hp → VK → Prop := fun xs H Q => ∃ (a : Addr) (kvs : List (Key × V)) (ks : List Str), xs = [.ref a] ∧ Rd H a (.dK kvs) ∧ kvs.map (·.1) = ks.map Sum.inr ∧ ks.length ≤ 16000000 ∧
    ∀ ys p, ys.Perm ks → sortedS ys = true → H p = Option.none → Q (.ref p) (upd H p (.lst (ys.map V.str)))
theorem call_sortedDA (hcalm : X.calm = true) : CallR X (.builtin "sorted") rSortedDA := by
  intro pins s σ H xs us Q I r q
  obtain ⟨a, kvs, ks, ex, hd, hks, h64, q⟩ := q
  subst ex
  obtain ⟨u, eu, rx⟩ := vals1 r
  subst eu
  cases rx
  obtain ⟨z, lo, vs, rel, dd⟩ := dk_rd I.hok hd
  obtain ⟨ep, hat⟩ := dd.dictAt
  have hkeys : vs.map (·.1) = ks.map Sum.inr := rel.keys.symm.trans hks
  have hl : vs.length = ks.length := by
    have e := congrArg List.length hkeys
    rw [List.length_map, List.length_map] at e
    exact e
  have h16 : vs.length ≤ sizeLine := by rw [hl, sizeLine_eq]; omega
  refine Calls.call_function_entry PyProof.Rows.kind_sorted PyProof.Rows.plain_sorted PyProof.Rows.entry_sorted (PyProof.Rows.args_sorted1 _) ?_
  unfold Builtin.«sorted»
  refine wpAny_bind (m := checkCount "sorted" 1 1 _) (wpAny_pure ?_)
  refine wpAny_bind (PySem.W.kdu_collect (A := X.A.in1) (PySem.W.kdl_dict (knd := mixKind X.prog X.w) (kvs := vs) (ep := ep) lo) (I.ok.hd hcalm) hat h16 fun h' tk acc hk hacc => ?_)
  have hal : acc.toList.length = ks.length := by rw [Array.length_toList, hacc.1, hl]
  have hS : StrsAre acc.toList ks := strs_at hal fun j v e => by
    obtain ⟨k, x, e1, e2⟩ := hacc.2 j v (by rw [← Array.getElem?_toList]; exact e)
    have e3 : (vs.map (·.1))[j]? = some k := by rw [List.getElem?_map, e1]; all_goals rfl
    rw [hkeys, List.getElem?_map] at e3
    cases e4 : ks[j]? with
    | none => rw [e4] at e3; cases e3
    | some y =>
      rw [e4] at e3
      have e5 : Sum.inr y = k := Option.some.inj e3
      subst e5
      obtain ⟨t, ev⟩ := Value.isStrOf_shape (x := y) (v := v) e2
      exact ⟨y, t, rfl, ev⟩
  have I1 : Inv X pins σ H { s with heap := h', toks := tk } := I.kept hk
  refine wpAny_bind (wpAny_newList ?_ (by rw [hal, sizeLine_eq]; omega))
  have hoL : (h'.push (seqObj "list" acc.toList.toArray 0)).get? h'.objs.size = some (seqObj "list" acc.toList.toArray 0) := Heap.get?_push_size _ rfl
  show wpAny _ _ _ _ _ { s with heap := h'.push (seqObj "list" acc.toList.toArray 0), toks := tk }
  refine wpAny_bind (wpAny_holding (wpAny_call_entry PyProof.Rows.slot_list_sort ⟨_, hoL, rfl⟩ PyProof.Rows.entry_list_sort
    (list_sort_treeKAny strKind_oneLt (s := { s with heap := h'.push (seqObj "list" acc.toList.toArray 0), toks := tk }) hoL hS.keysOf (fun v₁ v₂ rest e => keyKind_strs (by rw [← e]; exact hS)) (by rw [hal, sizeLine_eq]; omega) fun st' hp hs => ⟨_, rfl, ?_⟩)
    (PyProof.Rows.args_list_sort _)))
  obtain ⟨ys, g1, g2, g3⟩ := sorted_out_str hS hp hs
  obtain ⟨e', he'⟩ := PyProof.Rows.sortedHeap_at (vs := acc.toList) (out := (arrOf st').map (·.2)) hoL
  have hlen : (ys.map V.str).length ≤ sizeLine := by
    rw [List.length_map, g2.length_eq, sizeLine_eq]
    omega
  refine wpAny_pure ⟨_, rfl, .ref h'.objs.size, upd H h'.objs.size (.lst (ys.map V.str)), I1.laid (t' := tk) (fun b u e => ?_) (Nat.le_refl _)
    (show ObjOk X.prog X.w _ _ _ (.lst (ys.map V.str)) from ⟨hlen, ((arrOf st').map (·.2)).toList, e', vals_of_strs g1, by rw [Array.toArray_toList]; exact he'⟩), rfl, q ys _ g2 g3 (I1.hok.fresh (Nat.le_refl _))⟩
  have hb : b < h'.objs.size := Heap.lt_size e
  rw [PyProof.Rows.sortedHeap_old (Nat.ne_of_lt hb) (by rw [size_push']; exact Nat.lt_succ_of_lt hb)]
  exact Heap.get?_push_of_some _ e
end
/-! ### rows of texts in order -/
def leS (a b : Str) : Prop := ¬ b.cps.toList < a.cps.toList
theorem leS.tr {a b c : Str} (h : leS a b) (k : leS b c) : leS a c := fun z =>
  absurd z (List.not_lt.mpr (List.le_trans (show a.cps.toList ≤ b.cps.toList from h) (show b.cps.toList ≤ c.cps.toList from k)))
theorem leS.eq {a b : Str} (h : leS a b) (k : leS b a) : a = b := by
  have e : a.cps.toList = b.cps.toList := List.le_antisymm (show a.cps.toList ≤ b.cps.toList from h) (show b.cps.toList ≤ a.cps.toList from k)
  cases a with
  | mk x => cases b with
    | mk y =>
      have e' : x = y := Array.toList_inj.mp e
      rw [e']
theorem leS.refl (a : Str) : leS a a := List.lt_irrefl _
theorem rising_le : ∀ (l : List Str) (p : Str), risingS p l = true → (p :: l).Pairwise leS
  | [], p, _ => List.pairwise_singleton _ _
  | x :: r, p, h => by
    have h' : (!ltCps x.cps.toList p.cps.toList && risingS x r) = true := h
    rw [Bool.and_eq_true] at h'
    have ih := rising_le r x h'.2
    have le : leS p x := fun z => by
      have := h'.1
      rw [ltCps_eq, decide_eq_true z] at this
      cases this
    refine List.pairwise_cons.mpr ⟨fun y hy => ?_, ih⟩
    rcases List.mem_cons.mp hy with rfl | hy
    · exact le
    · exact le.tr ((List.pairwise_cons.mp ih).1 y hy)
theorem sorted_le : ∀ {l : List Str}, sortedS l = true → l.Pairwise leS
  | [], _ => .nil
  | x :: r, h => rising_le r x h
/-- ascending, without doubles -/
structure Asc (l : List Str) : Prop where
  le : l.Pairwise leS
  nd : l.Nodup
theorem Asc.uniq : ∀ {l m : List Str}, Asc l → Asc m → (∀ x, x ∈ l ↔ x ∈ m) → l = m := fun {l m} hl hm h => by
  have p : l.Perm m := (List.perm_ext_iff_of_nodup hl.nd hm.nd).mpr h
  exact List.Perm.eq_of_pairwise (fun a b _ _ h k => leS.eq h k) hl.le hm.le p
theorem asc_of {l ys : List Str} (h : ys.Perm l) (s : sortedS ys = true) (n : l.Nodup) : Asc ys ∧ ∀ x, x ∈ ys ↔ x ∈ l :=
  ⟨⟨sorted_le s, h.nodup_iff.mpr n⟩, fun x => h.mem_iff⟩
/-- one more text, not less than those that stand -/
theorem Asc.snoc {l : List Str} {x : Str} (h : Asc l) (k : ∀ y ∈ l, leS y x) (n : l.getLast? ≠ some x) : Asc (l ++ [x]) := by
  have no : x ∉ l := fun m => by
    cases e : l.getLast? with
    | none => rw [List.getLast?_eq_none_iff] at e; rw [e] at m; cases m
    | some z =>
      obtain ⟨r, rfl⟩ := List.getLast?_eq_some_iff.mp e
      have hz : leS z x := k z (List.mem_append_right _ List.mem_cons_self)
      rcases List.mem_append.mp m with m | m
      · have hx : leS x z := (List.pairwise_append.mp h.le).2.2 x m z List.mem_cons_self
        exact n (by rw [e, hz.eq hx])
      · exact n (by rw [e, List.mem_singleton.mp m])
  refine ⟨List.pairwise_append.mpr ⟨h.le, List.pairwise_singleton _ _, fun a ha b hb => ?_⟩, List.nodup_append.mpr ⟨h.nd, List.nodup_cons.mpr ⟨List.not_mem_nil, List.nodup_nil⟩, fun a ha b hb e => ?_⟩⟩
  · rw [List.mem_singleton.mp hb]
    exact k a ha
  · rw [List.mem_singleton.mp hb] at e
    exact no (e ▸ ha)
/-! ### keys of a dict that are texts -/
theorem putK_keys {kvs : List (Key × V)} {ns : List Str} (h : kvs.map (·.1) = ns.map Sum.inr) (x : Str) (v : V) : (putK kvs (Sum.inr x) v).map (·.1) = (if x ∈ ns then ns else ns ++ [x]).map Sum.inr := by
  have a : (kvs.any fun kv => decide (kv.1 = Sum.inr x)) = decide (x ∈ ns) := by
    have e : (kvs.any fun kv => decide (kv.1 = Sum.inr x)) = (kvs.map (·.1)).any fun k => decide (k = Sum.inr x) := by rw [List.any_map]; rfl
    rw [e, h, List.any_map]
    clear h e
    induction ns with
    | nil => rfl
    | cons n ns ih =>
      rw [List.any_cons, ih]
      by_cases q : n = x
      · subst q
        simp
      · have : ¬ x = n := fun z => q z.symm
        simp [q, this]
  unfold putK
  rw [a]
  by_cases q : x ∈ ns
  · rw [if_pos (decide_eq_true q), if_pos q, List.map_map, ← h]
    refine List.map_congr_left fun kv _ => ?_
    show (if kv.1 = Sum.inr x then (kv.1, v) else kv).1 = kv.1
    split <;> rfl
  · rw [if_neg (by rw [decide_eq_false q]; exact Bool.false_ne_true), if_neg q, List.map_append, List.map_append, h]
    rfl
/-- what is kept but the dict d -/
structure Kd (d : Addr) (H H' : Hp) : Prop where
  st : ∀ a o, a ≠ d → H a = some o → H' a = some o
  d1 : ∃ kvs, H d = some (.dK kvs)
  d2 : ∃ kvs, H' d = some (.dK kvs)
theorem Kd.trans {d : Addr} {H H1 H2 : Hp} (a : Kd d H H1) (b : Kd d H1 H2) : Kd d H H2 := ⟨fun x o n e => b.st x o n (a.st x o n e), a.d1, b.d2⟩
theorem Kd.of_same {d : Addr} {H H' : Hp} {kvs : List (Key × V)} (h : H d = some (.dK kvs)) (s : Same H H') : Kd d H H' := ⟨fun x o _ e => s x o e, ⟨_, h⟩, ⟨_, s _ _ h⟩⟩
theorem Kd.put {d : Addr} {H : Hp} {kvs kvs' : List (Key × V)} (h : H d = some (.dK kvs)) : Kd d H (upd H d (.dK kvs')) := ⟨fun x o n e => by rw [upd_ne n]; exact e, ⟨_, h⟩, ⟨_, upd_same⟩⟩
theorem Kd.tup {d : Addr} {K : PySem.W.Frag} {H H' : Hp} {a : Addr} {xs : List V} (k : Kd d H H') (h : SqT K H a xs) : SqT K H' a xs := by
  have no : ∀ o, H a = some o → (∀ ys, o ≠ .dK ys) → a ≠ d := fun o e n m => by
    obtain ⟨ys, e2⟩ := k.d1
    rw [m, e2] at e
    exact n ys (Option.some.inj e).symm
  rcases h with (h | ⟨o, h⟩) | h
  · exact .inl (.inl (k.st _ _ (no _ h fun _ z => nomatch z) h))
  · exact .inl (.inr ⟨o, k.st _ _ (no _ h fun _ z => nomatch z) h⟩)
  · exact .inr h
theorem Kd.dp {d : Addr} {K : PySem.W.Frag} {H H' : Hp} (k : Kd d H H') {v : V} {x : PyData} (f : flatD x = true) (h : Dp K H v x) : Dp K H' v x := dp_keep (fun _ _ q => k.tup q) _ _ f h
theorem Kd.dps {d : Addr} {K : PySem.W.Frag} {H H' : Hp} (k : Kd d H H') {vs : List V} {ds : List PyData} (f : flatDs ds = true) (h : DpAll K H vs ds) : DpAll K H' vs ds := dps_keep (fun _ _ q => k.tup q) _ _ f h
/-- a comprehension over data, of any size -/
theorem lc_dataW {K : PySem.W.Frag} {J : It} {n : Nat} {G : Hp → Prop} {Y : Nat → Hp → V → Hp → Prop} (wk : Walk J n G Y) {g : TG} {tt : TT} {te : TE} {vs : List Nat} {σ : L2.St} {H1 : Hp} {D : Addr} {Qd : Hp → Prop} (R : Nat → Option PyData)
    (hD : H1 D = Option.none) (hn : n ≤ 16000000) (hG : ∀ H, Same H1 H → G H) (hfl : ∀ i < n, ∀ d, R i = some d → flatD d = true)
    (hs : ∀ i x H H', i < n → Same H1 H → Y i H x H' → ∀ (Q1 : VK) (Q0 : Hp → Prop), (∀ v H4 d, R i = some d → Same H H4 → Dp K H4 v d → Q1 v H4) → (∀ H3, R i = none → Same H H3 → Q0 H3) →
      g x (wipe σ vs) H' fun σ2 H2 => wipe σ2 vs = wipe σ vs ∧ tt σ2 H2 fun b H3 => if b = true then te σ2 H3 Q1 else Q0 H3)
    (hd : ∀ H acc, Same H1 H → H D = some (.lst acc) → DpAll K H acc ((List.range n).filterMap R) → Qd H) :
    ∃ W : Nat → Nat → Hp → Prop, (∃ m, W 0 m (upd H1 D (.lst []))) ∧ ∀ i m H, W i m H →
      (J.stop i H ∧ Qd H) ∨ (J.go i H ∧ ∃ Nx : Hp → Prop, (∀ H', Nx H' → ∃ m', m' < m ∧ W (i + 1) m' H') ∧ ∀ x H', J.yld i H x H' → g x (wipe σ vs) H' fun σ2 H2 => wipe σ2 vs = wipe σ vs ∧ tt σ2 H2 fun b H3 =>
        if b = true then te σ2 H3 fun y H4 => ∃ acc, H4 D = some (.lst acc) ∧ acc.length < sizeLine ∧ Nx (upd H4 D (.lst (acc ++ [y]))) else Nx H3) := by
  have fl : ∀ i ≤ n, flatDs ((List.range i).filterMap R) = true := fun i hi => flatDs_of _ fun d hd => by
    obtain ⟨j, hj, e⟩ := List.mem_filterMap.mp hd
    exact hfl j (by have := List.mem_range.mp hj; omega) d e
  refine lc_it wk (fun i H => ∃ acc, Same H1 H ∧ H D = some (.lst acc) ∧ DpAll K H acc ((List.range i).filterMap R) ∧ acc.length ≤ i) ⟨[], same_new hD, upd_same, .nil, Nat.le_refl _⟩ (fun i H _ z => ?_) ?_ ?_
  · obtain ⟨acc, s, _⟩ := z
    exact hG H s
  · rintro i x H H' hi ⟨acc, s, hacc, ha, hl⟩ y
    refine hs i x H H' hi s y _ _ (fun v H4 d e s4 hv => ?_) (fun H3 e s3 => ?_)
    · have hD4 := s4 _ _ hacc
      refine ⟨acc, hD4, (by rw [sizeLine_eq]; omega), acc ++ [v], same_put (s.trans s4) hD, upd_same, ?_, by rw [List.length_append]; exact Nat.succ_le_succ hl⟩
      rw [List.range_succ, List.filterMap_append]
      have e1 : ([i].filterMap R) = [d] := by simp [e]
      rw [e1]
      exact DpAll.snoc (dp_keep (fun _ _ q => sqt_put hD4 q) _ _ (hfl i hi d e) hv) (dps_keep (fun _ _ q => sqt_put hD4 q) _ _ (fl i (by omega)) (dps_same s4 _ _ ha))
    · refine ⟨acc, s.trans s3, s3 _ _ hacc, ?_, by omega⟩
      rw [List.range_succ, List.filterMap_append]
      have e1 : ([i].filterMap R) = [] := by simp [e]
      rw [e1, List.append_nil]
      exact dps_same s3 _ _ ha
  · rintro H ⟨acc, s, hacc, ha, _⟩
    exact hd H acc s hacc ha
end Cm

/-! a comprehension that draws, with a word on what was made so far -/
namespace Cm
open PySem L2 PySem.Spec PyProof.Rows
theorem lc_drawJ {K : PySem.W.Frag} {M : Addr → Prop} {I : It} {n : Nat} {G : Hp → Prop} {Y : Nat → Hp → V → Hp → Prop} (wk : Walk I n G Y) {g : TG} {tt : TT} {te : TE} {vs : List Nat} {σ : L2.St} {H1 : Hp} {D : Addr} {Qd : Hp → Prop}
    (J : Nat → List PyData → Hp → Prop) (hM : ∀ a, M a → ∃ xs, H1 a = some (.lst xs)) (h0 : J 0 [] (upd H1 D (.lst []))) (hJ : ∀ i ds H ys, Kp M H1 H → J i ds H → J i ds (upd H D (.lst ys)))
    (hD : H1 D = Option.none) (hn : n ≤ 100000) (hG : ∀ i ds H, Kp M H1 H → J i ds H → G H) (hfl : ∀ i ds H, J i ds H → flatDs ds = true)
    (hs : ∀ i x ds H H', i < n → Kp M H1 H → J i ds H → Y i H x H' → ∀ (Q1 : VK) (Q0 : Hp → Prop), (∀ v H4 d, Kp M H H4 → J (i + 1) (ds ++ [d]) H4 → Dp K H4 v d → Q1 v H4) → (∀ H3, Kp M H H3 → J (i + 1) ds H3 → Q0 H3) →
      g x (wipe σ vs) H' fun σ2 H2 => wipe σ2 vs = wipe σ vs ∧ tt σ2 H2 fun b H3 => if b = true then te σ2 H3 Q1 else Q0 H3)
    (hd : ∀ H acc ds, Kp M H1 H → J n ds H → H D = some (.lst acc) → DpAll K H acc ds → Qd H) :
    ∃ W : Nat → Nat → Hp → Prop, (∃ m, W 0 m (upd H1 D (.lst []))) ∧ ∀ i m H, W i m H →
      (I.stop i H ∧ Qd H) ∨ (I.go i H ∧ ∃ Nx : Hp → Prop, (∀ H', Nx H' → ∃ m', m' < m ∧ W (i + 1) m' H') ∧ ∀ x H', I.yld i H x H' → g x (wipe σ vs) H' fun σ2 H2 => wipe σ2 vs = wipe σ vs ∧ tt σ2 H2 fun b H3 =>
        if b = true then te σ2 H3 fun y H4 => ∃ acc, H4 D = some (.lst acc) ∧ acc.length < sizeLine ∧ Nx (upd H4 D (.lst (acc ++ [y]))) else Nx H3) := by
  have nM : ¬ M D := fun m => by
    obtain ⟨xs, e⟩ := hM D m
    rw [hD] at e
    cases e
  refine lc_it wk (fun i H => ∃ acc ds, Kp M H1 H ∧ J i ds H ∧ H D = some (.lst acc) ∧ DpAll K H acc ds ∧ acc.length ≤ i) ⟨[], [], Kp.new hM hD, h0, upd_same, .nil, Nat.le_refl _⟩ (fun i H _ z => ?_) ?_ ?_
  · obtain ⟨acc, ds, s, j, _⟩ := z
    exact hG i ds H s j
  · rintro i x H H' hi ⟨acc, ds, s, j, hacc, ha, hl⟩ y
    refine hs i x ds H H' hi s j y _ _ (fun v H4 d s4 j4 hv => ?_) (fun H3 s3 j3 => ?_)
    · have hD4 := s4.st _ _ nM hacc
      have f4 := hfl _ _ _ j4
      have f1 : flatDs ds = true := hfl _ _ _ j
      have f2 : flatD d = true := flatDs_all f4 d (List.mem_append_right _ (List.mem_singleton.mpr rfl))
      refine ⟨acc, hD4, Nat.lt_of_le_of_lt hl (Nat.lt_of_lt_of_le (show i < 100000 by omega) (by decide)), acc ++ [v], ds ++ [d], (s.trans s4).mut hD, hJ _ _ _ _ (s.trans s4) j4, upd_same, ?_, by rw [List.length_append]; exact Nat.succ_le_succ hl⟩
      exact DpAll.snoc (dp_keep (fun _ _ q => sqt_put hD4 q) _ _ f2 hv) (dps_keep (fun _ _ q => sqt_put hD4 q) _ _ f1 (dps_keep (fun _ _ q => s4.tup q) _ _ f1 ha))
    · exact ⟨acc, ds, s.trans s3, j3, s3.st _ _ nM hacc, dps_keep (fun _ _ q => s3.tup q) _ _ (hfl _ _ _ j) ha, by omega⟩
  · rintro H ⟨acc, ds, s, j, hacc, ha, _⟩
    exact hd H acc ds s j hacc ha
/-- a built-in method with arguments, where K is said -/
theorem ke_bm {X : Cx} {K : PySem.W.Frag} {T : String} {name : Str} {id : String} {r : V → List V → Hp → VK → Prop} {o e : Expr} {es : List Expr} {to : TE} {t : TA} {apos cpos : Pos} (pa : PlainAttrs T) (slot : Slot T name id)
    (hty : typeOf (.builtin id) = pure (.type "method_descriptor")) (hm : MtR X id r) (ho : PE X o to) (ha : PA X (e :: es) t) (hK : X.K = K := by rfl) (b1 : attributeBase o name X.env (eval o X.env) = eval o X.env := by rfl)
    (b2 : ((backTo cpos (starEach (e :: es) X.env)).all (fun x => !x.1) && (backToKw cpos (keywordEach [] X.env)).all (fun x => x.1.isSome) && decide ((e :: es).length + ([] : List Keyword).length + (if ([] : List Keyword).isEmpty then 0 else 1) < 30)) = true := by rfl)
    (b3 : (apos.endLine == cpos.line) = true := by rfl) (b4 : starEach (e :: es) X.env = (false, eval e X.env) :: starEach es X.env := by rfl) (b5 : (backTo cpos (starEach es X.env)).any (·.1) = false := by rfl) :
    PE X (.Call (.Attribute o name apos) (e :: es) [] cpos) (tBM K T r to t) := by
  subst hK
  exact pe_bm pa slot hty hm ho ha b1 b2 b3 b4 b5
end Cm

/-! trees that are drawn: the hand and the room -/
namespace Cm
open PySem L2 PySem.Spec PyProof.Rows
/-- the hand at h, the room k at r -/
structure Gn (H : Hp) (h c r : Addr) (k : Nat) : Prop where
  hand : Hand H h c
  rm : H r = some (.lst [.int (k : Nat)])
  rh : r ≠ h
  rc : r ≠ c
abbrev Kr (h r : Addr) : Hp → Hp → Prop := Kp (fun a => a = h ∨ a = r)
theorem Gn.lists {H : Hp} {h c r : Addr} {k : Nat} (x : Gn H h c r k) : ∀ a, (a = h ∨ a = r) → ∃ xs, H a = some (.lst xs) := fun a m => by
  rcases m with rfl | rfl
  · exact x.hand.lst
  · exact ⟨_, x.rm⟩
theorem Gn.refl {H : Hp} {h c r : Addr} {k : Nat} (x : Gn H h c r k) : Kr h r H H := Kp.refl x.lists
theorem Gn.same {H H' : Hp} {h c r : Addr} {k : Nat} (x : Gn H h c r k) (s : Same H H') : Gn H' h c r k ∧ Kr h r H H' := ⟨⟨x.hand.same s, s _ _ x.rm, x.rh, x.rc⟩, .of_same x.lists s⟩
theorem Gn.draw {H H' : Hp} {h c r : Addr} {k : Nat} (x : Gn H h c r k) (kh : Kh h H H') (hh : Hand H' h c) : Gn H' h c r k ∧ Kr h r H H' :=
  ⟨⟨hh, kh.st _ _ x.rh x.rm, x.rh, x.rc⟩, kh.wider (fun _ m => .inl m) x.lists⟩
theorem Gn.puts {H : Hp} {h c r D : Addr} {o : HO} {k : Nat} (x : Gn H h c r k) (n1 : D ≠ h) (n2 : D ≠ c) (n3 : D ≠ r) : Gn (upd H D o) h c r k :=
  ⟨x.hand.puts n1 n2, by rw [upd_ne n3.symm]; exact x.rm, x.rh, x.rc⟩
/-- the room is one less -/
theorem Gn.less {H : Hp} {h c r : Addr} {k : Nat} (x : Gn H h c r (k + 1)) : Gn (upd H r (.lst [.int (k : Nat)])) h c r k ∧ Kr h r H (upd H r (.lst [.int (k : Nat)])) :=
  ⟨⟨x.hand.puts x.rh x.rc, upd_same, x.rh, x.rc⟩, Kp.put x.lists (.inr rfl)⟩
theorem sizes_snoc (t : Tr) : ∀ ts : List Tr, Tr.sizes (ts ++ [t]) = Tr.sizes ts + t.size
  | [] => by show t.size + 0 = 0 + t.size; omega
  | a :: ts => by
    have := sizes_snoc t ts
    show a.size + Tr.sizes (ts ++ [t]) = a.size + Tr.sizes ts + t.size
    omega
/-- a comprehension of drawn trees: F says how they lie in the list, E how one of them does -/
theorem lc_gen {K : PySem.W.Frag} {h c r : Addr} {k : Nat} {I : It} {n : Nat} {G : Hp → Prop} {Y : Nat → Hp → V → Hp → Prop} (wk : Walk I n G Y) {g : TG} {te : TE} {vs : List Nat} {σ : L2.St} {H1 : Hp} {D : Addr} {Qd : Hp → Prop}
    (F : List Tr → List PyData) (E : Nat → Tr → PyData) (dm cost : Nat) (F0 : F [] = []) (FS : ∀ ts t, ts.length < n → F (ts ++ [t]) = F ts ++ [E ts.length t]) (Fl : ∀ ts, flatDs (F ts) = true)
    (x0 : Gn H1 h c r k) (hD : H1 D = Option.none) (hn : n ≤ 100000) (hG : ∀ H, Kr h r H1 H → G H)
    (hs : ∀ i x k1 H H', i < n → Kr h r H1 H → Gn H h c r k1 → Y i H x H' → ∀ Q1 : VK, (∀ v t k2 H4, Kr h r H H4 → Gn H4 h c r k2 → Dp K H4 v (E i t) → t.ok → t.dep ≤ dm → t.size + 12 * k2 ≤ cost + 12 * k1 → Q1 v H4) →
      g x (wipe σ vs) H' fun σ2 H2 => wipe σ2 vs = wipe σ vs ∧ te σ2 H2 Q1)
    (hd : ∀ H acc ts k1, Kr h r H1 H → Gn H h c r k1 → H D = some (.lst acc) → DpAll K H acc (F ts) → ts.length = n → (∀ t ∈ ts, t.ok ∧ t.dep ≤ dm) → Tr.sizes ts + 12 * k1 ≤ cost * n + 12 * k → Qd H) :
    ∃ W : Nat → Nat → Hp → Prop, (∃ m, W 0 m (upd H1 D (.lst []))) ∧ ∀ i m H, W i m H →
      (I.stop i H ∧ Qd H) ∨ (I.go i H ∧ ∃ Nx : Hp → Prop, (∀ H', Nx H' → ∃ m', m' < m ∧ W (i + 1) m' H') ∧ ∀ x H', I.yld i H x H' → g x (wipe σ vs) H' fun σ2 H2 => wipe σ2 vs = wipe σ vs ∧ tYes σ2 H2 fun b H3 =>
        if b = true then te σ2 H3 fun y H4 => ∃ acc, H4 D = some (.lst acc) ∧ acc.length < sizeLine ∧ Nx (upd H4 D (.lst (acc ++ [y]))) else Nx H3) := by
  have nD := x0.hand.there hD
  have nDr : D ≠ r := (ne_of_none x0.rm hD).symm
  refine lc_drawJ (K := K) (M := fun a => a = h ∨ a = r) wk (fun i ds H => ∃ ts k1, ds = F ts ∧ Gn H h c r k1 ∧ ts.length = i ∧ (∀ t ∈ ts, t.ok ∧ t.dep ≤ dm) ∧ Tr.sizes ts + 12 * k1 ≤ cost * i + 12 * k) x0.lists
    ⟨[], k, F0.symm, (x0.same (same_new hD)).1, rfl, (fun _ m => by cases m), (by show 0 + 12 * k ≤ cost * 0 + 12 * k; omega)⟩ (fun i ds H ys _ j => ?_) hD hn (fun _ _ H kk _ => hG H kk) (fun i ds H j => ?_) ?_ ?_
  · obtain ⟨ts, k1, a1, a2, a3⟩ := j
    exact ⟨ts, k1, a1, a2.puts nD.1 nD.2 nDr, a3⟩
  · obtain ⟨ts, k1, rfl, _⟩ := j
    exact Fl ts
  · rintro i x ds H H' hi kk ⟨ts, k1, rfl, a2, a3, a4, a5⟩ y Q1 Q0 q1 q0
    refine hs i x k1 H H' hi kk a2 y Q1 fun v t k2 H4 k4 x4 hv ok dp sz => ?_
    refine q1 v H4 (E i t) k4 ⟨ts ++ [t], k2, ?_, x4, ?_, ?_, ?_⟩ hv
    · rw [FS ts t (by omega), a3]
    · rw [List.length_append, a3]; rfl
    · intro u hu
      rcases List.mem_append.mp hu with hu | hu
      · exact a4 u hu
      · cases List.mem_singleton.mp hu
        exact ⟨ok, dp⟩
    · rw [sizes_snoc, Nat.mul_succ]
      omega
  · rintro H acc ds kk ⟨ts, k1, rfl, a2, a3, a4, a5⟩ hacc ha
    exact hd H acc ts k1 kk a2 hacc ha a3 a4 a5
theorem encL_snoc (t : Tr) (ts : List Tr) : Tr.encL (ts ++ [t]) = Tr.encL ts ++ [t.enc] := by
  rw [encL_map, encL_map, List.map_append]
  rfl
/-- rows of names and trees -/
def rowsL (xs : List Str) (ts : List Tr) : List PyData := (xs.zip (Tr.encL ts)).map rowD
theorem rowsL_snoc {t : Tr} : ∀ {xs : List Str} {ts : List Tr}, ts.length < xs.length → rowsL xs (ts ++ [t]) = rowsL xs ts ++ [rowD ((xs[ts.length]?).getD "", t.enc)]
  | x :: xs, [], _ => by simp [rowsL, Tr.encL]
  | x :: xs, a :: ts, h => by
    have ih := rowsL_snoc (t := t) (xs := xs) (ts := ts) (by simpa using h)
    show rowD (x, a.enc) :: rowsL xs (ts ++ [t]) = rowD (x, a.enc) :: rowsL xs ts ++ _
    rw [ih]
    rfl
theorem rowsL_flat (xs : List Str) (ts : List Tr) : flatDs (rowsL xs ts) = true := flatDs_of _ fun d hd => by
  obtain ⟨p, hp, rfl⟩ := List.mem_map.mp hd
  have h := (List.of_mem_zip (show (p.1, p.2) ∈ xs.zip (Tr.encL ts) from hp)).2
  have := flatDs_all (flat_encL ts) _ h
  simp [rowD, flatD, flatDs, this]
end Cm

set_option linter.all false
/-! the names that forms bind -/
namespace Cm
open PySem L2 PySem.Spec PyProof.Rows
/-- the names that a form binds -/
def held : Hd → List Str
  | .fn xs => xs
  | .one w x => if w = "set" then [] else [x]
  | .bind _ xs => xs
  | _ => []
def isLet : Hd → Bool
  | .bind w _ => decide (w = "let")
  | _ => false
def isTak : Hd → Bool
  | .one w _ => !decide (w = "set")
  | _ => false
def isFn (h : Hd) : Bool := kd h == 4
def isName (h : Hd) : Bool := kd h == 1
/-- .. over the i-th of n parts -/
def under (h : Hd) (n i : Nat) : List Str := if isLet h = true ∧ i + 1 < n then [] else held h
def bnds (h : Hd) (n : Nat) : List PyData := (List.range n).map fun i => encs (under h n i)
theorem under_no {h : Hd} (e : isLet h = false) (n i : Nat) : under h n i = held h := by
  unfold under
  rw [e, if_neg (fun z => Bool.false_ne_true z.1)]
theorem bnds_no {h : Hd} (e : isLet h = false) (n : Nat) : bnds h n = List.replicate n (encs (held h)) := by
  unfold bnds
  have : (fun i => encs (under h n i)) = fun _ => encs (held h) := by
    funext i
    rw [under_no e]
  rw [this, List.map_const', List.length_range]
theorem bnds_let {h : Hd} (e : isLet h = true) (n : Nat) : bnds h (n + 1) = List.replicate n (encs []) ++ [encs (held h)] := by
  unfold bnds
  rw [List.range_succ, List.map_append]
  have h1 : (List.range n).map (fun i => encs (under h (n + 1) i)) = List.replicate n (encs []) := by
    have : (List.range n).map (fun i => encs (under h (n + 1) i)) = (List.range n).map (fun _ => encs []) := List.map_congr_left fun i hi => by
      have := List.mem_range.mp hi
      unfold under
      rw [if_pos ⟨e, by omega⟩]
    rw [this, List.map_const', List.length_range]
  rw [h1]
  congr 1
  show [encs (under h (n + 1) n)] = _
  unfold under
  rw [if_neg (fun z => by omega)]
theorem flat_bnds (h : Hd) (n : Nat) : flatDs (bnds h n) = true := flatDs_of _ fun d hd => by
  obtain ⟨i, _, rfl⟩ := List.mem_map.mp hd
  exact flat_strs _
theorem under_at {h : Hd} {n i : Nat} (hi : i < n) : (bnds h n)[i]? = some (encs (under h n i)) := by
  unfold bnds
  rw [List.getElem?_map, List.getElem?_range hi]
  rfl
theorem under_len {h : Hd} {m : Nat} (o : hok h m) (l : m ≤ 11) (n i : Nat) : (under h n i).length ≤ 100 := by
  unfold under
  split
  · exact Nat.zero_le _
  · cases h with
    | fn xs => exact o.2.1
    | one w x =>
      show (if w = "set" then [] else [x] : List Str).length ≤ 100
      split
      · exact Nat.zero_le _
      · exact (by decide : 1 ≤ 100)
    | bind w xs =>
      have := o.1
      show xs.length ≤ 100
      omega
    | _ => exact Nat.zero_le _
theorem held_sok {h : Hd} {m : Nat} (o : hok h m) : ∀ x ∈ held h, sok x := by
  cases h with
  | fn xs => exact o.2.2
  | one w x =>
    show ∀ y ∈ (if w = "set" then [] else [x] : List Str), sok y
    split
    · intro y hy; cases hy
    · intro y hy
      rw [List.mem_singleton.mp hy]
      exact o.2.2
  | bind w xs => exact o.2.2
  | _ => intro y hy; cases hy
section
variable {h : Hd} {n : Nat}
theorem eq_fn (o : hok h n) : decide (V.str (wd h) = V.str "fn") = isFn h := by
  rw [decS]
  exact by_kind (fun w => decide (w = "fn")) (fun k => k == 4) (by decide +kernel) o
theorem eq_name (o : hok h n) : decide (V.str (wd h) = V.str "name") = isName h := by
  rw [decS]
  exact by_kind (fun w => decide (w = "name")) (fun k => k == 1) (by decide +kernel) o
theorem in_T (o : hok h n) : inV (.str (wd h)) ((["keep", "once", "take"] : List Str).map V.str) = isTak h := by
  have other : kd h ≠ 3 → inV (.str (wd h)) ((["keep", "once", "take"] : List Str).map V.str) = false := fun q => by
    have key : ∀ c < 10, c ≠ 3 → ∀ w ∈ wordsOf c, inV (.str w) ((["keep", "once", "take"] : List Str).map V.str) = false := by decide +kernel
    exact key _ (wd_mem o).1 q _ (wd_mem o).2
  cases h with
  | one w x =>
    have key : ∀ w ∈ oneW, inV (.str w) ((["keep", "once", "take"] : List Str).map V.str) = !decide (w = "set") := by decide +kernel
    exact key w o.2.1
  | num i => exact other (Nat.ne_of_beq_eq_false rfl)
  | name i => exact other (Nat.ne_of_beq_eq_false rfl)
  | lit i => exact other (Nat.ne_of_beq_eq_false rfl)
  | fn i => exact other (Nat.ne_of_beq_eq_false rfl)
  | bind i _ => exact other (Nat.ne_of_beq_eq_false rfl)
  | doo => exact other (Nat.ne_of_beq_eq_false rfl)
  | call => exact other (Nat.ne_of_beq_eq_false rfl)
  | op i => exact other (Nat.ne_of_beq_eq_false rfl)
  | plain i => exact other (Nat.ne_of_beq_eq_false rfl)
theorem eq_set (o : hok h n) : decide (V.str (wd h) = V.str "set") = (kd h == 3 && !isTak h) := by
  have other : kd h ≠ 3 → decide (wd h = "set") = false := fun q => by
    have key : ∀ c < 10, c ≠ 3 → ∀ w ∈ wordsOf c, decide (w = ("set" : Str)) = false := by decide +kernel
    exact key _ (wd_mem o).1 q _ (wd_mem o).2
  rw [decS]
  cases h with
  | one w x =>
    show decide (w = "set") = (true && !(!decide (w = "set")))
    rw [Bool.not_not, Bool.true_and]
  | num i => exact other (Nat.ne_of_beq_eq_false rfl)
  | name i => exact other (Nat.ne_of_beq_eq_false rfl)
  | lit i => exact other (Nat.ne_of_beq_eq_false rfl)
  | fn i => exact other (Nat.ne_of_beq_eq_false rfl)
  | bind i _ => exact other (Nat.ne_of_beq_eq_false rfl)
  | doo => exact other (Nat.ne_of_beq_eq_false rfl)
  | call => exact other (Nat.ne_of_beq_eq_false rfl)
  | op i => exact other (Nat.ne_of_beq_eq_false rfl)
  | plain i => exact other (Nat.ne_of_beq_eq_false rfl)
theorem eq_let (o : hok h n) : decide (V.str (wd h) = V.str "let") = isLet h := by
  have other : kd h ≠ 5 → decide (wd h = "let") = false := fun q => by
    have key : ∀ c < 10, c ≠ 5 → ∀ w ∈ wordsOf c, decide (w = ("let" : Str)) = false := by decide +kernel
    exact key _ (wd_mem o).1 q _ (wd_mem o).2
  rw [decS]
  cases h with
  | bind w x => rfl
  | num i => exact other (Nat.ne_of_beq_eq_false rfl)
  | name i => exact other (Nat.ne_of_beq_eq_false rfl)
  | lit i => exact other (Nat.ne_of_beq_eq_false rfl)
  | fn i => exact other (Nat.ne_of_beq_eq_false rfl)
  | one i _ => exact other (Nat.ne_of_beq_eq_false rfl)
  | doo => exact other (Nat.ne_of_beq_eq_false rfl)
  | call => exact other (Nat.ne_of_beq_eq_false rfl)
  | op i => exact other (Nat.ne_of_beq_eq_false rfl)
  | plain i => exact other (Nat.ne_of_beq_eq_false rfl)
end
/-- the names that a tree names (or sets alone), as the form of a list -/
def own (sa : Bool) : Hd → List Str
  | .name x => if sa = true then [] else [x]
  | .one w x => if w = "set" then [x] else []
  | _ => []
mutual
def Tr.free (sa : Bool) : Tr → List Str
  | .mk h ps => own sa h ++ Tr.frees sa h ps.length 0 ps
def Tr.frees (sa : Bool) (h : Hd) (n : Nat) : Nat → List Tr → List Str
  | _, [] => []
  | i, t :: ts => (t.free sa).filter (fun x => !decide (x ∈ under h n i)) ++ Tr.frees sa h n (i + 1) ts
end
theorem frees_snoc (sa : Bool) (h : Hd) (n : Nat) (t : Tr) : ∀ (ts : List Tr) (i : Nat), Tr.frees sa h n i (ts ++ [t]) = Tr.frees sa h n i ts ++ (t.free sa).filter (fun x => !decide (x ∈ under h n (i + ts.length)))
  | [], i => by
    show (t.free sa).filter _ ++ [] = [] ++ _
    simp
  | a :: ts, i => by
    show (a.free sa).filter _ ++ Tr.frees sa h n (i + 1) (ts ++ [t]) = ((a.free sa).filter _ ++ Tr.frees sa h n (i + 1) ts) ++ _
    rw [frees_snoc sa h n t ts (i + 1), List.append_assoc, List.length_cons, show i + 1 + ts.length = i + (ts.length + 1) by omega]
theorem own_len (sa : Bool) (h : Hd) : (own sa h).length ≤ 1 := by
  cases h with
  | name x => show (if sa = true then [] else [x] : List Str).length ≤ 1; split <;> simp
  | one w x => show (if w = "set" then [x] else [] : List Str).length ≤ 1; split <;> simp
  | _ => exact Nat.zero_le _
mutual
theorem free_len (sa : Bool) : ∀ t : Tr, (t.free sa).length ≤ t.size
  | .mk h ps => by
    have h1 := own_len sa h
    have h2 := frees_len sa h ps.length 0 ps
    show (own sa h ++ Tr.frees sa h ps.length 0 ps).length ≤ Tr.sizes ps + 1
    rw [List.length_append]
    omega
theorem frees_len (sa : Bool) (h : Hd) (n : Nat) : ∀ (i : Nat) (ts : List Tr), (Tr.frees sa h n i ts).length ≤ Tr.sizes ts
  | _, [] => Nat.le_refl _
  | i, t :: ts => by
    have h1 := free_len sa t
    have h2 := frees_len sa h n (i + 1) ts
    have h3 := List.length_filter_le (fun x => !decide (x ∈ under h n i)) (t.free sa)
    show ((t.free sa).filter _ ++ Tr.frees sa h n (i + 1) ts).length ≤ t.size + Tr.sizes ts
    rw [List.length_append]
    omega
end
mutual
theorem free_sok (sa : Bool) : ∀ t : Tr, t.ok → ∀ x ∈ t.free sa, sok x
  | .mk h ps, o, x, m => by
    have o' : hok h ps.length ∧ ps.length ≤ 11 ∧ Tr.oks ps := o
    have m' : x ∈ own sa h ++ Tr.frees sa h ps.length 0 ps := m
    rcases List.mem_append.mp m' with m' | m'
    · cases h with
      | name y =>
        have m2 : x ∈ (if sa = true then [] else [y] : List Str) := m'
        split at m2
        · cases m2
        · rw [List.mem_singleton.mp m2]
          exact o'.1.2
      | one w y =>
        have m2 : x ∈ (if w = "set" then [y] else [] : List Str) := m'
        split at m2
        · rw [List.mem_singleton.mp m2]
          exact o'.1.2.2
        · cases m2
      | _ => cases m'
    · exact frees_sok sa h ps.length 0 ps o'.2.2 x m'
theorem frees_sok (sa : Bool) (h : Hd) (n : Nat) : ∀ (i : Nat) (ts : List Tr), Tr.oks ts → ∀ x ∈ Tr.frees sa h n i ts, sok x
  | _, [], _, _, m => by cases m
  | i, t :: ts, o, x, m => by
    have m' : x ∈ (t.free sa).filter (fun x => !decide (x ∈ under h n i)) ++ Tr.frees sa h n (i + 1) ts := m
    rcases List.mem_append.mp m' with m' | m'
    · exact free_sok sa t o.1 x (List.mem_filter.mp m').1
    · exact frees_sok sa h n (i + 1) ts o.2 x m'
end
end Cm

set_option linter.all false
/-! own exceptions that are made as values, their fields, isinstance of them -/
namespace Cm
open PySem L2 PySem.Spec PyProof.Rows
/-- a made exception with fields fs -/
def ExV (H : Hp) (a C : Addr) (fs : List (Str × V)) : Prop := ∃ d, H a = some (exo a C (some d)) ∧ H d = some (exd d fs)
theorem ExV.same {H H' : Hp} {a C : Addr} {fs : List (Str × V)} (x : ExV H a C fs) (s : Same H H') : ExV H' a C fs := by
  obtain ⟨d, e1, e2⟩ := x
  exact ⟨d, s _ _ e1, s _ _ e2⟩
/-- C(e, ..) as a value, C's own __init__ keeping sp -/
def tMkV (C : Addr) (sp : Sp) (ta : TA) : TE := fun σ H Q => ta σ H fun vs H1 => vs.length ≤ 1000 ∧ ∀ a, H1 a = Option.none → sp (.ref a :: vs) (upd H1 a (exo a C Option.none)) (fun v H2 => v = .non ∧ Q (.ref a) H2) E0
theorem pe_mkV {X : Cx} {x : Str} {C fI : Addr} {k : Nat} {fd : FuncData} {ps : List Str} {sp : Sp} {e : Expr} {es : List Expr} {ta : TA} {p pos : Pos} (T : OexC X.K C) (iC : PySem.W.findIn X.K (.ref C) "__init__" = some (some (.ref fI))) (tI : PySem.W.typeIn X.K (.ref fI) = some (.type "function"))
    (F1 : FnOk X.prog X.w X.K X.mg X.base CX0 k fI fd ps sp) (hr : Room (k + 1) X.A) (hb : Binds X.K fd ps []) (hg : Gl X x) (hm : X.mg x = some (.ref C)) (ha : PA X (e :: es) ta)
    (hdb : (x == ("__debug__" : Str)) = false := by decide) (he : starEach (e :: es) X.env = (false, eval e X.env) :: starEach es X.env := by rfl) (hpl : (backTo pos (starEach es X.env)).any (·.1) = false := by rfl) :
    PE X (.Call (.Name x p) (e :: es) [] pos) (tMkV C sp ta) := by
  refine ⟨fun pins s σ H Q I h => ?_⟩
  obtain ⟨nm, q, N, bs, bm, sn, sub, ab, col, dd, k0, k1, k2, k3, k5, hC, hbm⟩ := T.cls
  refine wpAny_Call_Name_kw (ld_glob I hg hm ?_ hdb)
  refine PySem.W.callWith_K (h₀ := X.base) I.ok.mod.kin T.kC (thn (ha.run pos pins s σ H _ I h) fun us s1 ⟨vs, H1, I1, r1, hz, q1⟩ => ⟨I1.kIn, ?_⟩) he hpl
  show wpAny _ _ (call (.ref C) us) _ _ _
  obtain ⟨hp, g, dr, tk, os⟩ := s1
  have hsz : hp.objs.size ≤ hp.objs.size + 1 := Nat.le_succ _
  have hq := q1 (hp.objs.size + 1) (I1.hok.fresh hsz)
  have hget : ((hp.push (PySem.W.kdv_tup us)).push (PySem.HandSPX.excO C hp.objs.size)).get? (hp.objs.size + 1) = some (PySem.HandSPX.excO C hp.objs.size) := by heap_get
  have I2 : Inv X pins σ (upd H1 (hp.objs.size + 1) (exo (hp.objs.size + 1) C Option.none)) ⟨(hp.push (PySem.W.kdv_tup us)).push (PySem.HandSPX.excO C hp.objs.size), g, dr, tk, os⟩ :=
    I1.laid (t' := tk) (a := hp.objs.size + 1) (o := exo (hp.objs.size + 1) C Option.none) (fun b o e => Heap.get?_push_of_some _ (Heap.get?_push_of_some _ e)) hsz (exo_ok hget)
  have r2 : Vals (V.ref (hp.objs.size + 1) :: vs) (Value.ref (hp.objs.size + 1) :: us) := .cons rfl r1
  have hl : (Value.ref (hp.objs.size + 1) :: us).length = ps.length := by
    have e := r2.length
    rw [F1.len _ _ _ _ hq] at e
    exact e.symm
  have hus : us.length ≤ sizeLine := by
    rw [← Paired.length r1, sizeLine_eq]
    omega
  have hbb := hb ⟨(hp.push (PySem.W.kdv_tup us)).push (PySem.HandSPX.excO C hp.objs.size), g, dr, tk, os⟩ (Value.ref (hp.objs.size + 1) :: us) I2.kIn (by rw [List.append_nil]; exact hl)
  rw [List.append_nil] at hbb
  refine wpAny_call (PySem.HandSPX.call_own F.excBase_ValueError (fun Y => PySem.HandSPX.refsVE_contains Y bm hbm) (I1.kIn _ _ hC) (PySem.W.looks_findIn I1.kIn iC) (fun self => PySem.W.bind_fn I1.kIn self tI) hus
    (codeAny_mono (F1.run _ X.stack _ _ ⟨Value.ref (hp.objs.size + 1) :: us, []⟩ (Value.ref (hp.objs.size + 1) :: us) _ _ E0 (hr.make C us []) (I2.env0.make C us []) hbb r2 hq) fun r s' hq' => ?_))
  cases r with
  | error er => exact pass0 pins σ _ _ er s' I2 hq'
  | ok fl =>
    cases fl with
    | ret u =>
      obtain ⟨v, H2, J, rv, ev, q2⟩ := I2.after hq'
      subst ev
      exact ⟨rv, .ref (hp.objs.size + 1), H2, J, rfl, q2⟩
    | next => exact False.elim hq'
    | brk => exact False.elim hq'
    | cont => exact False.elim hq'
/-! ### x.f -/
def tFldE (K : PySem.W.Frag) (f : Str) (te : TE) : TE := fun σ H Q => te σ H fun x H1 => ∃ (a C : Addr) (fs : List (Str × V)) (v : V), x = .ref a ∧ XfC K C ∧ PySem.W.findIn K (.ref C) f = some Option.none ∧ ExV H1 a C fs ∧ fs.lookup f = some v ∧ Q v H1
theorem pe_fldE {X : Cx} {e : Expr} {te : TE} {pos : Pos} {n : Str} (he : PE X e te) (hb : attributeBase e n X.env (eval e X.env) = eval e X.env := by rfl) : PE X (.Attribute e n pos) (tFldE X.K n te) := by
  refine ⟨fun pins s σ H Q I h => ?_⟩
  refine attr_of hb (thn (he.run pins s σ H _ I h) fun u s1 hh => ?_)
  obtain ⟨x, H1, I1, rx, a, C, fs, v, ex, T, hno, ⟨dd, eh, ea⟩, l, q⟩ := hh
  subst ex
  obtain rfl : u = Value.ref a := rx
  obtain ⟨t1, ho⟩ := exo_at I1.hok eh
  obtain ⟨mA, hns, hr⟩ := exd_at I1.hok ea
  obtain ⟨od, hod, hl⟩ := lookIn_ns hns
  obtain ⟨u, hu, ru⟩ := RelO.some_of (v := v) (o := mA n) (by rw [← l]; exact hr n)
  have J : PySem.W.InstAt s1.heap a { cls := .ref C, dict := some dd, data := .fields #[.ref t1, .none, .none, .none, .bool false, .none] } C (some od) := ⟨ho, rfl, rfl, hod⟩
  exact HandSPX.exc_get I1.kIn J T.ga T.gg T.exC (PySem.W.findObj_own T.hdC hno rfl (by rw [hl, hu])) (handed_of ru) ⟨v, H1, I1.tok _, ru, q⟩
end Cm
/-! ### isinstance(x, D), whichever class (after the library's rule for an exception without a dict) -/
namespace PySem.W
open PySem PySem.Spec PySem.Calls PyProof.Rows
theorem cls_ofExc {prog : Program} {w : World} {A : Around} {E : Value → Shared → Prop} {s : Shared} {K : Frag} {x D : Addr} {ox od : Obj} {Q : Option Value → Shared → Prop} (T : L2.ExcC K D) (X : K.In s.heap) (I : InstAt s.heap x ox D (some od))
    (h : Q (some (.ref D)) { s with toks := s.toks + 1 }) : wpAny (model prog w) A (getAttr? (.ref x) "__class__") Q E s := by
  have hf : findObj K D (some od) "__class__" = some (.bind (.builtin "getset_descriptor.__get__") (.builtin "object.__class__")) := findObj_data (by obtain ⟨cd, hc, _⟩ := any_some T.hd; rw [hc]; rfl) T.ha T.hn T.ht
  obtain ⟨hp, g, d, t, os⟩ := s
  have L0 := I.type (M := model prog w)
  have L1 := looks_findIn (M := model prog w) X T.hg
  have L2 := looks_findIn (M := model prog w) X T.hk
  have L3 := looks_find (M := model prog w) X I hf
  have sub : Looks (model prog w) hp (isInstance (.ref x) (.type "BaseException")) true := L0.andThen (looks_subIn X T.hs)
  have ne : (Value.builtin "BaseException.__getattribute__" == Value.builtin "object.__getattribute__") = false := by decide +kernel
  unfold getAttr? getAttrBy? getAttrBy
  refine wpAny_bind (wpAny_mkText (wpAny_bind (wpAny_attempt (wpAny_holding (wpAny_bind (L0.at (wpAny_bind (L1.at ?_))))))))
  show wpAny _ _ (if (onTheHeap (Value.ref D) && Value.builtin "BaseException.__getattribute__" == Value.builtin "object.__getattribute__") = true then _ else _) _ _ _
  rw [show (onTheHeap (Value.ref D) && Value.builtin "BaseException.__getattribute__" == Value.builtin "object.__getattribute__") = false by rw [ne]; rfl, if_neg Bool.false_ne_true]
  unfold getAttrByItsOwn hookBefore
  refine wpAny_bind ?_
  rw [if_pos (show onTheHeap (Value.ref D) = true from rfl)]
  refine L2.at (wpAny_bind (wpAny_attempt (wpAny_holding ?_)))
  unfold callGetattribute
  rw [show (false && onTheHeap (Value.builtin "BaseException.__getattribute__")) = false from rfl, if_neg Bool.false_ne_true]
  unfold boundAndCalled
  rw [PySem.F.excAttr_ValueError.ga.bind (.ref x)]
  refine wpAny_bind (wpAny_pure ?_)
  show wpAny _ _ (call (.builtin "BaseException.__getattribute__") [.ref x, .str "__class__" t]) _ _ _
  refine wpAny_call (codeAny_call_builtin PySem.F.excAttr_ValueError.ga.plain PySem.F.entry_bexc_ga ?_)
  refine @check_slot (model prog w) _ _ ⟨hp, g, d, t + 1, os⟩ "BaseException.__getattribute__" "BaseException" "__getattribute__" (.ref x) [.str "__class__" t] [] _ (by decide +kernel) (by decide +kernel) sub (PySem.F.args_bexc_ga (.ref x) (.str "__class__" t)) ?_
  unfold Builtin.«object.__getattribute__»
  refine wpAny_bind (wpAny_of_eq (a := ((Value.ref x : Value), [Value.str "__class__" t])) (by first | rfl | (simp only [slotArgs]; rfl)) ?_)
  refine wpAny_bind (wpAny_pure (wpAny_bind (L0.at (wpAny_bind (L3.at ?_)))))
  show wpAny _ _ (holding [Value.builtin "object.__class__"] (call (.builtin "getset_descriptor.__get__") [.builtin "object.__class__", .ref x, .ref D]) >>= ret) _ _ _
  refine wpAny_bind (wpAny_holding (wpAny_call (class_get (s := ⟨hp, g, d, t + 1, os⟩) (ox := ox) (od := some od) X I T.hm ?_)))
  refine wpAny_pure ?_
  show wpAny _ _ (handedOut (.ref D)) _ _ _
  rw [handedOut_of (v := .ref D) rfl]
  first
    | exact wpAny_pure (wpAny_pure h)
    | exact wpAny_pure h
    | exact wpAny_pure (wpAny_bind (wpAny_pure (wpAny_pure h)))
theorem kit_ofExc {K : Frag} {x D : Addr} {ox od : Obj} (T : L2.ExcC K D) : KitX K (.ref x) (.ref D) (fun h => InstAt h x ox D (some od)) where
  ty := fun _ _ _ I => I.type
  it := fun _ _ X _ => by
    obtain ⟨cdD, hcD, _⟩ := any_some T.hd
    unfold clsIn at hcD
    split at hcD
    · rename_i c' d' cd' sl' ho
      intro A' Q' E' s' k q
      unfold isType loadHead
      exact wpAny_bind (wpAny_loadPart (k _ _ (X _ _ ho)) (wpAny_pure q))
    · cases hcD
  ne := fun h tp dd its n sl X htp => by
    obtain ⟨cdD, hcD, _⟩ := any_some T.hd
    refine Bool.eq_false_iff.mpr fun q => ?_
    have e : D = tp := Value.ref.inj (beq_iff_eq.mp q)
    subst e
    unfold clsIn at hcD
    split at hcD
    · rename_i c' d' cd' sl' ho
      have z := (X _ _ ho).symm.trans htp
      cases z
    · cases hcD
  ca := fun X I k => cls_ofExc T X I k
end PySem.W
namespace Cm
open PySem L2 PySem.Spec PyProof.Rows
def rIsV (K : PySem.W.Frag) : List V → Hp → VK → Prop := fun xs H Q => ∃ (a C : Addr) (fs : List (Str × V)) (c : V) (cv : Value) (b : Bool), xs = [.ref a, c] ∧ ClsV c cv ∧ ExcC K C ∧ ExV H a C fs ∧ PySem.W.kitOne K (.ref C) cv = some b ∧ Q (.bl b) H
theorem call_isV {X : Cx} : CallR X (.builtin "isinstance") (rIsV X.K) := by
  intro pins s σ H xs us Q I r h
  obtain ⟨a, C, fs, c, cv, b, rfl, kc, T, ⟨dd, eh, ea⟩, e, q⟩ := h
  obtain ⟨u1, u2, rfl, r1, r2⟩ := vals2 r
  obtain rfl : u1 = Value.ref a := r1
  have e2 := kc.eq r2
  subst e2
  obtain ⟨t1, ho⟩ := exo_at I.hok eh
  obtain ⟨mA, hns, hr⟩ := exd_at I.hok ea
  obtain ⟨od, hod, hl⟩ := lookIn_ns hns
  have J : PySem.W.InstAt s.heap a { cls := .ref C, dict := some dd, data := .fields #[.ref t1, .none, .none, .none, .bool false, .none] } C (some od) := ⟨ho, rfl, rfl, hod⟩
  exact PySem.W.kia_one (PySem.W.kit_ofExc T) I.kIn J e (fun z => nomatch z) fun tk => ⟨.bl b, H, I.tok tk, rfl, q⟩
end Cm

set_option linter.all false
/-! classes of errors with fields: what is needed of each -/
namespace Cm
open PySem L2 PySem.Spec PyProof.Rows
/-- what an __init__ that stores its parameters leaves -/
def spI (K : PySem.W.Frag) (fl : List Str) : Sp := fun vs H Q _ => ∃ (a C : Addr) (xs : List V), vs = .ref a :: xs ∧ xs.length = fl.length ∧ OexC K C ∧ (∀ f ∈ fl, PySem.W.findIn K (.ref C) f = some Option.none) ∧ H a = some (exo a C Option.none) ∧
  ∀ (d : Addr) (H' : Hp), H d = Option.none → d ≠ a → (∀ b o, b ≠ a → H b = some o → H' b = some o) → H' a = some (exo a C (some d)) → H' d = some (exd d (fl.zip xs).reverse) → Q .non H'
structure Mk (P : Program) (w : World) (K : PySem.W.Frag) (mg : Str → Option Value) (base : Heap) (C : Addr) (x : Str) (fl : List Str) : Prop where
  oex : OexC K C
  g : mg x = some (.ref C)
  xf : XfC K C
  ec : ExcC K C
  no : ∀ f ∈ fl, PySem.W.findIn K (.ref C) f = some Option.none
  init : ∃ (fI : Addr) (fd : FuncData) (ps : List Str), PySem.W.findIn K (.ref C) "__init__" = some (some (.ref fI)) ∧ PySem.W.typeIn K (.ref fI) = some (.type "function") ∧ FnOk P w K mg base CX0 1 fI fd ps (spI K fl) ∧ Binds K fd ps []
def tMk (C : Addr) (fl : List Str) (ta : TA) : TE := fun σ H Q => ta σ H fun vs H1 => vs.length = fl.length ∧ ∀ a H', Same H1 H' → ExV H' a C (fl.zip vs).reverse → Q (.ref a) H'
theorem pe_mk {X : Cx} {x : Str} {C : Addr} {fl : List Str} {j : Nat} {e : Expr} {es : List Expr} {ta : TA} {p pos : Pos} (M : Mk X.prog X.w X.K X.mg X.base C x fl) (hr : Room j X.A) (hk : 2 ≤ j) (hl : fl.length ≤ 1000) (hg : Gl X x) (ha : PA X (e :: es) ta)
    (hdb : (x == ("__debug__" : Str)) = false := by decide) (he : starEach (e :: es) X.env = (false, eval e X.env) :: starEach es X.env := by rfl) (hpl : (backTo pos (starEach es X.env)).any (·.1) = false := by rfl) :
    PE X (.Call (.Name x p) (e :: es) [] pos) (tMk C fl ta) := by
  obtain ⟨fI, fd, ps, h1, h2, F, b⟩ := M.init
  have ha' : PA X (e :: es) (fun σ H Q => ∃ Q0, ta σ H Q0 ∧ ∀ vs H1, Q0 vs H1 → Q vs H1) := ⟨fun pos pins s σ H Q I ⟨Q0, h0, imp⟩ =>
    wpAny_mono (ha.run pos pins s σ H Q0 I h0) (fun us s1 ⟨vs, H1, I1, r, q⟩ => ⟨vs, H1, I1, r, imp _ _ q⟩) (fun _ _ z => z)⟩
  have R := pe_mkV (p := p) (pos := pos) M.oex h1 h2 F (hr.mono hk) b hg M.g ha' hdb he hpl
  refine ⟨fun pins s σ H Q I h => R.run pins s σ H Q I ⟨_, h, fun vs H1 ⟨hv, hq⟩ => ⟨by omega, fun a ha0 => ?_⟩⟩⟩
  refine ⟨a, C, vs, rfl, hv, M.oex, M.no, upd_same, fun d H' _ _ keep ea ed => ⟨rfl, hq a H' (fun b o q => ?_) ⟨d, ea, ed⟩⟩⟩
  have hb : b ≠ a := fun z => by
    rw [z, ha0] at q
    cases q
  exact keep b o hb (by rw [upd_ne hb]; exact q)
/-- self.f = x, then perhaps self.g = y -/
theorem init1 {K : PySem.W.Frag} {H : Hp} {a C : Addr} {f : Str} {x : V} {Q : Hp → Prop} (T : OexC K C) (no : PySem.W.findIn K (.ref C) f = some Option.none) (ha : H a = some (exo a C Option.none))
    (k : ∀ (d : Addr) (H' : Hp), H d = Option.none → d ≠ a → (∀ b o, b ≠ a → H b = some o → H' b = some o) → H' a = some (exo a C (some d)) → H' d = some (exd d [(f, x)]) → Q H') :
    ∃ a' C', V.ref a = .ref a' ∧ OexC K C' ∧ PySem.W.findIn K (.ref C') f = some Option.none ∧ ((H a' = some (exo a' C' Option.none) ∧ ∀ dx, H dx = Option.none → dx ≠ a' → Q (upd (upd H dx (exd dx [(f, x)])) a' (exo a' C' (some dx)))) ∨
      ∃ (dx : Addr) (fs : List (Str × V)), H a' = some (exo a' C' (some dx)) ∧ H dx = some (exd dx fs) ∧ fs.length ≤ 900 ∧ Q (upd H dx (exd dx ((f, x) :: fs)))) :=
  ⟨a, C, rfl, T, no, .inl ⟨ha, fun dx hd ne => k dx _ hd ne (fun b o hb e => by rw [upd_ne hb, upd_ne (ne_of_none e hd)]; exact e) upd_same (by rw [upd_ne ne]; exact upd_same)⟩⟩
theorem init2 {K : PySem.W.Frag} {H : Hp} {a C d : Addr} {g : Str} {y : V} {fs : List (Str × V)} {Q : Hp → Prop} (T : OexC K C) (no : PySem.W.findIn K (.ref C) g = some Option.none) (ha : H a = some (exo a C (some d))) (hd : H d = some (exd d fs)) (hl : fs.length ≤ 900) (ne : d ≠ a)
    (k : (∀ b o, b ≠ d → H b = some o → (upd H d (exd d ((g, y) :: fs))) b = some o) → Q (upd H d (exd d ((g, y) :: fs)))) :
    ∃ a' C', V.ref a = .ref a' ∧ OexC K C' ∧ PySem.W.findIn K (.ref C') g = some Option.none ∧ ((H a' = some (exo a' C' Option.none) ∧ ∀ dx, H dx = Option.none → dx ≠ a' → Q (upd (upd H dx (exd dx [(g, y)])) a' (exo a' C' (some dx)))) ∨
      ∃ (dx : Addr) (fs : List (Str × V)), H a' = some (exo a' C' (some dx)) ∧ H dx = some (exd dx fs) ∧ fs.length ≤ 900 ∧ Q (upd H dx (exd dx ((g, y) :: fs)))) :=
  ⟨a, C, rfl, T, no, .inr ⟨d, fs, ha, hd, hl, k fun b o hb e => by rw [upd_ne hb]; exact e⟩⟩
end Cm

set_option linter.all false
/-! an error without arguments; isinstance of errors of any kind -/
namespace Cm
open PySem L2 PySem.Spec PyProof.Rows
theorem pe_exc0 {X : Cx} {C : Addr} {bmB : List Value} {B newId initId : String} {x : Str} {p pos : Pos} (F : ExcBaseFacts B newId initId bmB) (q : PySem.W.excIn X.K C bmB newId = true) (gC : X.mg x = some (.ref C)) (kC : PySem.W.keepIn X.K (.ref C) = true) (hg : Gl X x)
    (hdb : (x == ("__debug__" : Str)) = false := by decide) :
    PE X (.Call (.Name x p) [] [] pos) (fun _ H Q => ∀ a, H a = Option.none → Q (.ref a) (upd H a (ExO (.ref C) a))) := by
  refine ⟨fun pins s σ H Q I h => ?_⟩
  refine wpAny_Call_Name_kw (ld_glob I hg gC ?_ hdb)
  refine PySem.W.callWith_K0 I.kIn kC ?_
  show wpAny _ _ (call (.ref C) []) _ _ _
  obtain ⟨bm, N, nm, qn, bs, hdct, sn, sub, ab, col, dd, k0, k1, k2, k3, k5, mN, hC, hN, hni, T⟩ := exc_obj I.kIn q
  refine wpAny_call_exc_subT F T hC hN hni (fun h' a hm => ?_) (by show 0 ≤ sizeLine; rw [sizeLine_eq]; omega)
  have hn : H a = Option.none := I.hok.gone hm.new
  obtain ⟨t, ht, _, _⟩ := hm.there
  exact ⟨.ref a, upd H a (ExO (.ref C) a), I.laidN hm.keeps hm.new hn (exO_ok ht ⟨rfl, rfl⟩ rfl rfl rfl (show 4 < 6 by decide)), rfl, h a hn⟩
/-- an error: with a dict, without, or kept behind a try -/
def ExA (H : Hp) (a C : Addr) : Prop := (∃ fs, ExV H a C fs) ∨ H a = some (ExO (.ref C) a) ∨ ∃ dd fs, H a = some (ExH a (.ref C) (some dd)) ∧ H dd = some (.xd fs)
theorem ExA.same {H H' : Hp} {a C : Addr} (x : ExA H a C) (s : Same H H') : ExA H' a C := by
  rcases x with ⟨fs, x⟩ | x | ⟨dd, fs, x, y⟩
  · exact .inl ⟨fs, x.same s⟩
  · exact .inr (.inl (s _ _ x))
  · exact .inr (.inr ⟨dd, fs, s _ _ x, s _ _ y⟩)
def rIsA (K : PySem.W.Frag) : List V → Hp → VK → Prop := fun xs H Q => ∃ (a C : Addr) (c : V) (cv : Value) (b : Bool), xs = [.ref a, c] ∧ ClsV c cv ∧ ExcC K C ∧ ExA H a C ∧ PySem.W.kitOne K (.ref C) cv = some b ∧ Q (.bl b) H
theorem call_isA {X : Cx} : CallR X (.builtin "isinstance") (rIsA X.K) := by
  intro pins s σ H xs us Q I r h
  obtain ⟨a, C, c, cv, b, rfl, kc, T, x, e, q⟩ := h
  rcases x with ⟨fs, x⟩ | x | ⟨dd, fs, eh, ea⟩
  · exact call_isV pins s σ H _ us Q I r ⟨a, C, fs, c, cv, b, rfl, kc, T, x, e, q⟩
  · obtain ⟨u1, u2, rfl, r1, r2⟩ := vals2 r
    obtain rfl : u1 = Value.ref a := r1
    have e2 := kc.eq r2
    subst e2
    have hx : ObjOk X.prog X.w H s.heap a (ExO (.ref C) a) := I.hok a _ x
    obtain ⟨oe, vs, ho, hz, hd, _⟩ := hx.1
    have J : PySem.W.InstAt s.heap a oe C Option.none := ⟨ho, hz.1, by unfold PySem.W.notCls; rw [hd] <;> rfl, by rw [hz.2]; trivial⟩
    exact PySem.W.kia_one (PySem.W.handS_kitx_exc T.hg T.hk T.hs T.hd T.ha T.hn T.ht T.hm) I.kIn J e (fun z => nomatch z) fun tk => ⟨.bl b, H, I.tok tk, rfl, q⟩
  · obtain ⟨u1, u2, rfl, r1, r2⟩ := vals2 r
    obtain rfl : u1 = Value.ref a := r1
    have e2 := kc.eq r2
    subst e2
    obtain ⟨oe, vs, ho, hz, hd⟩ := exH_at I.hok eh
    have hx : ObjOk X.prog X.w H s.heap dd (.xd fs) := I.hok dd _ ea
    obtain ⟨mA, hns, hr⟩ := hx
    obtain ⟨od, hod, hl⟩ := lookIn_ns hns
    have J : PySem.W.InstAt s.heap a oe C (some od) := ⟨ho, hz.1, by unfold PySem.W.notCls; rw [hd] <;> rfl, by rw [hz.2]; exact hod⟩
    exact PySem.W.kia_one (PySem.W.kit_ofExc T) I.kIn J e (fun z => nomatch z) fun tk => ⟨.bl b, H, I.tok tk, rfl, q⟩
end Cm

set_option linter.all false
/-! raise C(x, ..); try with two clauses of which the second catches and keeps -/
namespace Cm
open PySem L2 PySem.Spec PyProof.Rows
def tRaiseMk (C : Addr) (fl : List Str) (W : WX) (ta : TA) : TS := fun _ σ H => ta σ H fun vs H1 => vs.length = fl.length ∧ ∀ (d : Addr) (H' : Hp), Same H1 H' → H' d = some (.xd (fl.zip vs).reverse) → W (.ref C) (some d) σ H'
theorem ps_raiseMk {X : Cx} {x : Str} {C : Addr} {fl : List Str} {j : Nat} {W : WX} {e : Expr} {es : List Expr} {ta : TA} {p pos pos2 : Pos} (hc : X.calm = true) (M : Mk X.prog X.w X.K X.mg X.base C x fl) (hr : Room j X.A) (hk : 2 ≤ j) (hl : fl.length ≤ 1000) (tk : Takes X W) (hg : Gl X x) (ha : PA X (e :: es) ta)
    (hdb : (x == ("__debug__" : Str)) = false := by decide) (he : starEach (e :: es) X.env = (false, eval e X.env) :: starEach es X.env := by rfl) (hpl : (backTo pos (starEach es X.env)).any (·.1) = false := by rfl) :
    PS X (.Raise (some (.Call (.Name x p) (e :: es) [] pos)) Option.none pos2) (tRaiseMk C fl W ta) := by
  obtain ⟨fI, fd, ps, h1, h2, F, b⟩ := M.init
  have ha' : PA X (e :: es) (fun σ H Q => ∃ Q0, ta σ H Q0 ∧ ∀ vs H1, Q0 vs H1 → Q vs H1) := ⟨fun pos pins s σ H Q I ⟨Q0, h0, imp⟩ =>
    wpAny_mono (ha.run pos pins s σ H Q0 I h0) (fun us s1 ⟨vs, H1, I1, r, q⟩ => ⟨vs, H1, I1, r, imp _ _ q⟩) (fun _ _ z => z)⟩
  have R := ps_raise (pos := pos2) hc tk (pmk_oex (p := p) (pos := pos) M.oex h1 h2 F (hr.mono hk) b .nil (fun _ _ _ _ _ _ _ z => z.elim) hg M.g ha' hdb he hpl)
  refine ⟨fun pins s σ H D I h => R.run pins s σ H D I ⟨_, h, fun vs H1 ⟨hv, hq⟩ => ⟨by omega, fun a ha0 => ?_⟩⟩⟩
  refine ⟨a, C, vs, by rw [List.append_nil], hv, M.oex, M.no, upd_same, fun d H' hd ne keep ea ed => ⟨rfl, d, _, ea, ed, ?_, ?_⟩⟩
  · rw [upd_ne ne] at hd
    exact hd
  · have hd1 : H1 d = Option.none := by rw [upd_ne ne] at hd; exact hd
    refine hq d _ (fun b o q => ?_) upd_same
    have hb : b ≠ a := fun z => by
      rw [z, ha0] at q
      cases q
    rw [upd_ne (ne_of_none q hd1), del_ne hb]
    exact keep b o hb (by rw [upd_ne hb]; exact q)
/-- .. of two clauses, the second catches -/
def wHeld2 (K : PySem.W.Frag) (c1 c : Value) (i : Nat) (ts : Addr → TS) (D : Ends) : WX := fun cls d σ H =>
  PySem.W.exmOne K cls c1 = some false ∧ PySem.W.exmOne K cls c = some true ∧ ∀ a, H a = Option.none → ts a { nx := fun σ' H' => D.nx (σ'.set i Option.none) H', rt := D.rt, bk := fun σ' H' => D.bk (σ'.set i Option.none) H', ct := fun σ' H' => D.ct (σ'.set i Option.none) H' } (σ.set i (some (.ref a))) (upd H a (ExH a cls d))
section
variable {X : Cx} {x n x1 n1 : Str} {c c1 : Value} {i : Nat} {body suite suite1 : List Stmt} {b₀ b1 : Stmt} {np pos pos' np1 pos1 : Pos} {tb : WX → TS} {ts : Addr → TS}
theorem ps_try_held2 (hs : X.stack = X.env :: X.outer) (hf : X.env.frame = some X.env.locals) (hN : X.N.Nodup) (hi : X.N[i]? = some n) (hln : X.env.kindOf n = some .local) (hc1 : Names X x1 c1) (hc : Names X x c) (hex : X.ex = [])
    (hb : ∀ (W : WX) (pn : List (Addr × Obj)) (xe : Value → Shared → Prop), Takes (X.tr pn xe) W → PassesOwn (model X.prog X.w) X.A X.env xe → PSs (X.tr pn xe) body (tb W))
    (hsu : ∀ (a : Addr) (pn : List (Addr × Obj)), PSs (X.suite a pn) (b₀ :: suite) (ts a)) :
    PS X (.Try body [.ExceptHandler (some (.Name x1 np1)) (some n1) (b1 :: suite1) pos1, .ExceptHandler (some (.Name x np)) (some n) (b₀ :: suite) pos'] [] [] pos) (fun D σ H => tb (wHeld2 X.K c1 c i ts D) D σ H) := by
  refine ⟨fun pins s σ H D I h => ?_⟩
  have ok := I.ok
  have hfr : X.A.frames = some (X.env :: X.outer) := by rw [ok.frames, hs]
  refine wpAny_Try_except ?_
  refine wpAny_mono ((hb (wHeld2 X.K c1 c i ts D) (X.pn ++ pins) (fun e s₁ => wpAny (model X.prog X.w) X.A (noteFrame e X.env) (fun _ s₂ => wpAny (model X.prog X.w) X.A (setFlight e Option.none) (fun _ s₃ =>
    wpAny (model X.prog X.w) X.A (handleBy e X.env [.ExceptHandler (some (.Name x1 np1)) (some n1) (b1 :: suite1) pos1, .ExceptHandler (some (.Name x np)) (some n) (b₀ :: suite) pos']) (SP X pins D) X.xe s₃) X.xe s₂) X.xe s₁) (fun u s' xx => ?_) PassesOwn.looking).run [] s σ H D (I.toTry _) h) (fun f s1 hsp => ?_) (fun e s1 he => he)
  · obtain ⟨a, B, sI, pins', σ', H', cls, d, rfl, J', nb, up, sky, na, os, ag, hb0, hb1, hyes⟩ := xx
    have J : Inv X pins σ' H' sI := J'.ofTry ok
    have sky' : Sky B (X.env :: X.outer) a (Zc cls d) X.env.locals s'.heap := by rw [← hs]; exact sky
    show wpAny _ _ (noteFrame (.ref a) X.env) _ _ _
    refine Sky.land Zc.steady hfr hf sky' fun h3 fl3 up3 => ?_
    have J3 : Inv X pins σ' H' { s' with heap := h3 } := J.landed nb fl3.1 (up.trans up3) os ag
    obtain ⟨oe3, vs3, he3, hz3, hd3⟩ := fl3.there
    have nfr : a ∉ frs X.stack := fun hm => by
      rw [hs] at hm
      obtain ⟨_, o', e', hnf⟩ := fl3.2.2.1.mem hm
      rw [he3] at e'
      cases e'
      exact hnf _ hd3
    have nsI : sI.heap.get? a = Option.none := by
      cases q : sI.heap.get? a with
      | none => rfl
      | some o =>
        have z := nb a o q nfr
        rw [fl3.2.1] at z
        cases z
    have n0 : X.s_0.heap.get? a = Option.none := by
      cases q : X.s_0.heap.get? a with
      | none => rfl
      | some o =>
        obtain ⟨o', z⟩ := J.base.there a o q (by rw [hex]; exact List.not_mem_nil)
        rw [nsI] at z
        cases z
    have nL : a ≠ X.env.locals := fun z => nfr (by
      rw [hs]
      exact List.mem_filterMap.mpr ⟨X.env, List.mem_cons_self, by rw [hf, z]⟩)
    have nC : ∀ y c, X.env.cells.lookup y = some c → c ≠ a := fun y c e z => by
      obtain ⟨v, o, ho, _⟩ := J.cell y c e
      rw [z, nsI] at ho
      cases ho
    have nP : ∀ p ∈ X.pn ++ pins, p.1 ≠ a := fun p hp z => by
      have q := (J.pin p hp).1
      rw [z, nsI] at q
      cases q
    have S3 := suite0 J3 a
    refine wpAny_handleBy_cons (codeAny_handlers_test ?_) (by intro q; cases q)
    have LT : PySem.W.Looks (model X.prog X.w) h3 (typeOf (.ref a)) cls := fun A Q E s k q => wpAny_typeOf_ref (k _ _ he3) (by rw [hz3.1]; exact q)
    have LM0 := PySem.W.exm_one (M := model X.prog X.w) (J3.kIn) LT hb0
    have test1 : ∀ {Q : Value → Shared → Prop} {E : Value → Shared → Prop}, Q c1 { s' with heap := h3 } → wpAny (model X.prog X.w) (X.A.mark (some (.ref a))) (eval (.Name x1 np1) X.env) Q E { s' with heap := h3 } := fun {Q E} q => by
      obtain ⟨hg, hdbg, hm | ⟨hm, hv, hnn⟩⟩ := hc1
      · exact ld_glob (X := X.suite a (X.pn ++ pins)) S3 hg hm q hdbg
      · exact ld_blt (X := X.suite a (X.pn ++ pins)) S3 hg hm hv q hnn hdbg
    refine test1 (LM0.here ?_)
    show wpAny _ X.A (handleBy (.ref a) X.env [.ExceptHandler (some (.Name x np)) (some n) (b₀ :: suite) pos']) _ _ _
    refine wpAny_handleBy_cons (codeAny_handlers_test ?_) (by intro q; cases q)
    have LM := PySem.W.exm_one (M := model X.prog X.w) (J3.kIn) LT hb1
    have test : ∀ {Q : Value → Shared → Prop} {E : Value → Shared → Prop}, Q c { s' with heap := h3 } → wpAny (model X.prog X.w) (X.A.mark (some (.ref a))) (eval (.Name x np) X.env) Q E { s' with heap := h3 } := fun {Q E} q => by
      obtain ⟨hg, hdbg, hm | ⟨hm, hv, hnn⟩⟩ := hc
      · exact ld_glob (X := X.suite a (X.pn ++ pins)) S3 hg hm q hdbg
      · exact ld_blt (X := X.suite a (X.pn ++ pins)) S3 hg hm hv q hnn hdbg
    refine test (LM.here ?_)
    refine codeAny_handlers_suite_as ?_
    refine HandSPX.lands_againZ fl3 fun h4 fl4 up4 => ?_
    have J4 : Inv X pins σ' H' { s' with heap := h4 } := J.landed nb fl4.1 ((up.trans up3).trans up4) os ag
    obtain ⟨oe4, vs4, he4, hz4, hd4⟩ := fl4.there
    have T4 := track (o := ExH a cls d) J4 na n0 nL nC nP (exH_ok he4 hz4 hd4)
    have S4 := suite0 T4 a
    refine store_ok (X := X.suite a (X.pn ++ pins)) (v := .ref a) S4 hN hi (.inl hln) rfl (fun s5 S5 => ?_) (.inr hln)
    refine wpAny_mono ((hsu a (X.pn ++ pins)).run [] s5 _ _ _ S5 (hyes a na)) (fun f s6 hsp => ?_) (fun _ _ z => False.elim z)
    have end_ : ∀ {σ6 : L2.St} {H6 : Hp} {Q : Shared → Prop}, Inv (X.suite a (X.pn ++ pins)) [] σ6 H6 s6 → (∀ s7, Inv X pins (σ6.set i Option.none) H6 s7 → Q s7) →
        wpAny (model X.prog X.w) X.A (do bindName X.env n .none; unbindBehindTheSuite X.env n pos') (fun _ s7 => Q s7) X.xe s6 := fun {σ6 H6 Q} S6 hq => gone_ok (unsuite0 S6 ok) hN hi hln hq
    cases f with
    | next =>
      obtain ⟨σ6, H6, S6, q6⟩ := hsp
      exact end_ S6 fun s7 J7 => ⟨_, _, J7, q6⟩
    | brk =>
      obtain ⟨σ6, H6, S6, q6⟩ := hsp
      exact end_ S6 fun s7 J7 => ⟨_, _, J7, q6⟩
    | cont =>
      obtain ⟨σ6, H6, S6, q6⟩ := hsp
      exact end_ S6 fun s7 J7 => ⟨_, _, J7, q6⟩
    | ret u =>
      obtain ⟨v6, σ6, H6, S6, r6, q6⟩ := hsp
      exact end_ S6 fun s7 J7 => ⟨_, _, _, J7, r6, q6⟩
  · cases f with
    | next =>
      obtain ⟨σ', H', J', q⟩ := hsp
      exact wpAny_execs_nil ⟨σ', H', J'.ofTry ok, q⟩
    | brk =>
      obtain ⟨σ', H', J', q⟩ := hsp
      exact ⟨σ', H', J'.ofTry ok, q⟩
    | cont =>
      obtain ⟨σ', H', J', q⟩ := hsp
      exact ⟨σ', H', J'.ofTry ok, q⟩
    | ret u =>
      obtain ⟨v, σ', H', J', r, q⟩ := hsp
      exact ⟨v, σ', H', J'.ofTry ok, r, q⟩
end
end Cm

set_option linter.all false
/-! defs that raise, called by name; the first wrong name of a tree -/
namespace Cm
open PySem L2 PySem.Spec PyProof.Rows
structure ClX (P : Program) (w : World) (K : PySem.W.Frag) (mg : Str → Option Value) (base : Heap) (k : Nat) (x : Str) (sp : Sp) : Prop where
  ex : ∃ (f : Addr) (fd : FuncData) (ps : List Str), FnOk P w K mg base (L2.CX P w) k f fd ps sp ∧ mg x = some (.ref f) ∧ PySem.W.keepIn K (.ref f) = true ∧ Binds K fd ps []
section
variable {P : Program} {w : World} {K : PySem.W.Frag} {mg : Str → Option Value} {base : Heap}
theorem clX_of {x : Str} {st : Stmt} {N ps : List Str} {k : Nat} {sp : Sp} (T : At K mg x st ps) (S : FnScope N ps (defScope st))
    (len : ∀ vs H Q E, sp vs H Q E → vs.length = ps.length)
    (hb : ∀ (f : Addr) (cdv : Value) (A : Around) (outer : List Env) (s : Shared) (H : Hp) (vs : List V) (Q : VK) (E : XK),
      Room k (A.deeper (envOfC x (defScope st) s.heap.objs.size f cdv)) → sp vs H Q E →
      ∃ t, PSs (cxOf (L2.CX P w) P w K mg base N x (defScope st) f cdv A outer s H E) (defBody st) t ∧ t { nx := fun _ H' => Q .non H', rt := Q } (start N vs) H) :
    ClX P w K mg base (k + 1) x sp := by
  obtain ⟨f, fd, F, hm, b⟩ := T.ex
  exact ⟨f, fd, ps, F.okX S len (hb f), hm, F.kp, b⟩
end
section
variable {X : Cx} {j k : Nat} {x : Str} {sp : Sp} {e : Expr} {es : List Expr} {t : TA} {p pos : Pos}
/-- a call that lets nothing out -/
theorem pe_cL (c : ClX X.prog X.w X.K X.mg X.base k x sp) (hr : Room j X.A) (hk : k ≤ j) (hg : Gl X x) (ha : PA X (e :: es) t)
    (hdb : (x == ("__debug__" : Str)) = false := by decide) (he : starEach (e :: es) X.env = (false, eval e X.env) :: starEach es X.env := by rfl)
    (hpl : (backTo pos (starEach es X.env)).any (·.1) = false := by rfl) : PE X (.Call (.Name x p) (e :: es) [] pos) (tCall sp [] E0 t) := by
  obtain ⟨f, fd, ps, F, hm, kp, b⟩ := c.ex
  exact pe_call F (hr.mono hk) hg hm kp b .nil passL ha hdb he hpl
/-- a call in a try -/
theorem pe_cS {W : WX} (c : ClX X.prog X.w X.K X.mg X.base k x sp) (hr : Room j X.A) (hk : k ≤ j) (hg : Gl X x) (tk : Takes X W) (ha : PA X (e :: es) t)
    (hdb : (x == ("__debug__" : Str)) = false := by decide) (he : starEach (e :: es) X.env = (false, eval e X.env) :: starEach es X.env := by rfl)
    (hpl : (backTo pos (starEach es X.env)).any (·.1) = false := by rfl) : PE X (.Call (.Name x p) (e :: es) [] pos) (tCallS sp (WE W) t) := by
  obtain ⟨f, fd, ps, F, hm, kp, b⟩ := c.ex
  exact pe_callS F (hr.mono hk) hg hm kp b (fun σ => passAt tk σ) ha hdb he hpl
end

/-- the first text that stands a second time -/
def twice (pre : List Str) : List Str → Option Str
  | [] => none
  | x :: r => if x ∈ pre then some x else twice (pre ++ [x]) r
theorem twice_sok : ∀ (xs pre : List Str) {x : Str}, twice pre xs = some x → x ∈ xs
  | [], _, _, h => by cases h
  | y :: r, pre, x, h => by
    have h' : (if y ∈ pre then some y else twice (pre ++ [y]) r) = some x := h
    split at h'
    · cases h'
      exact List.mem_cons_self
    · exact List.mem_cons_of_mem _ (twice_sok r _ h')
mutual
/-- the first wrong name, in reading order -/
def Tr.wrong (known : List Str) : Tr → Option (Str × Str)
  | .mk h ps => match (own false h).filter (fun x => !decide (x ∈ known)) with
    | x :: _ => some ("unknown", x)
    | [] => match twice [] (held h) with
      | some x => some ("twice", x)
      | none => Tr.wrongs known h ps.length 0 ps
def Tr.wrongs (known : List Str) (h : Hd) (n : Nat) : Nat → List Tr → Option (Str × Str)
  | _, [] => none
  | i, t :: ts => match t.wrong (known ++ under h n i) with
    | some e => some e
    | none => Tr.wrongs known h n (i + 1) ts
end
mutual
theorem wrong_sok : ∀ (t : Tr) (known : List Str) (e : Str × Str), t.ok → t.wrong known = some e → sok e.1 ∧ sok e.2
  | .mk h ps, known, e, o, w => by
    have o' : hok h ps.length ∧ ps.length ≤ 11 ∧ Tr.oks ps := o
    have w' : (match (own false h).filter (fun x => !decide (x ∈ known)) with
      | x :: _ => some ("unknown", x)
      | [] => match twice [] (held h) with
        | some x => some ("twice", x)
        | none => Tr.wrongs known h ps.length 0 ps) = some e := w
    split at w'
    · rename_i x r q
      cases w'
      refine ⟨show sok "unknown" by decide +kernel, ?_⟩
      have m : x ∈ (own false h).filter (fun x => !decide (x ∈ known)) := by rw [q]; exact List.mem_cons_self
      have m2 : x ∈ (Tr.mk h ps).free false := List.mem_append_left _ (List.mem_filter.mp m).1
      exact free_sok false (.mk h ps) o x m2
    · split at w'
      · rename_i x q
        cases w'
        exact ⟨show sok "twice" by decide +kernel, held_sok o'.1 x (twice_sok _ _ q)⟩
      · exact wrongs_sok 0 ps known h ps.length e o'.2.2 w'
theorem wrongs_sok : ∀ (i : Nat) (ts : List Tr) (known : List Str) (h : Hd) (n : Nat) (e : Str × Str), Tr.oks ts → Tr.wrongs known h n i ts = some e → sok e.1 ∧ sok e.2
  | _, [], _, _, _, _, _, w => by cases w
  | i, t :: ts, known, h, n, e, o, w => by
    have w' : (match t.wrong (known ++ under h n i) with
      | some e => some e
      | none => Tr.wrongs known h n (i + 1) ts) = some e := w
    split at w'
    · rename_i e' q
      cases w'
      exact wrong_sok t _ _ o.1 q
    · exact wrongs_sok (i + 1) ts known h n e o.2 w'
end
end Cm

set_option linter.all false
/-! classes of errors with fields: their facts as one check -/
namespace Cm
open PySem L2 PySem.Spec PyProof.Rows
/-- the def within a class of the text -/
def iniS : Stmt → Stmt
  | .ClassDef _ _ _ b _ _ _ _ _ _ _ => b.getD 0 (.Pass ⟨0, 0, 0, 0⟩)
  | s => s
theorem two_of {α : Type} {xs : List α} (h : xs.length = 2) : ∃ x y, xs = [x, y] := by
  cases xs with
  | nil => simp at h
  | cons a r =>
    obtain ⟨b, rfl⟩ := one_of (show r.length = 1 by simpa using h)
    exact ⟨a, b, rfl⟩
def excB (K : PySem.W.Frag) (C : Addr) : Bool :=
  PySem.W.findIn K (.ref C) "__getattribute__" == some (some (.builtin "BaseException.__getattribute__")) && (PySem.W.findIn K (.ref C) "__getattr__" == some Option.none && (PySem.W.subIn K (.ref C) (.type "BaseException") == some true && (PySem.W.hasDictIn K C &&
    (PySem.W.findIn K (.ref C) "__class__" == some (some (.builtin "object.__class__")) && (PySem.W.specialIn K (.builtin "object.__class__") "__get__" == some (some (.builtin "getset_descriptor.__get__")) && (PySem.W.takesIn K (.builtin "object.__class__") == some true &&
      (PySem.W.mroIn K C (.type "object") == some true && (PySem.W.typeIn K (.ref C) == some (.type "type") && PySem.W.keepIn K (.ref C)))))))))
def clsB (K : PySem.W.Frag) (C fI : Addr) (fl : List Str) : Bool :=
  excB K C && (PySem.W.findIn K (.ref C) "__setattr__" == some (some (.builtin "object.__setattr__")) && ((fl.all fun f => PySem.W.findIn K (.ref C) f == some Option.none) && (PySem.W.typeIn K (.ref fI) == some (.type "function") && PySem.W.keepIn K (.ref fI))))
structure ExcF (K : PySem.W.Frag) (C : Addr) : Prop where
  ec : ExcC K C
  xf : XfC K C
  ty : PySem.W.typeIn K (.ref C) = some (.type "type")
  kp : PySem.W.keepIn K (.ref C) = true
theorem excB_ok {K : PySem.W.Frag} {C : Addr} (h : excB K C = true) : ExcF K C := by
  simp only [excB, Bool.and_eq_true, beq_iff_eq] at h
  obtain ⟨h1, h2, h3, h4, h5, h6, h7, h8, h9, h10⟩ := h
  exact ⟨⟨h1, h2, h3, h4, h5, h6, h7, h8⟩, ⟨h1, h2, h3, h4⟩, h9, h10⟩
theorem clsB_exc {K : PySem.W.Frag} {C fI : Addr} {fl : List Str} (h : clsB K C fI fl = true) : ExcF K C := by
  simp only [clsB, Bool.and_eq_true] at h
  exact excB_ok h.1
theorem clsB_kI {K : PySem.W.Frag} {C fI : Addr} {fl : List Str} (h : clsB K C fI fl = true) : PySem.W.keepIn K (.ref fI) = true := by
  simp only [clsB, Bool.and_eq_true, beq_iff_eq] at h
  exact h.2.2.2.2
theorem mk_of {P : Program} {w : World} {K : PySem.W.Frag} {h : Heap} {mg : Str → Option Value} {base : Heap} {C fI R : Addr} {x : Str} {fl ps : List Str} {fd : FuncData} (X : K.In h) (G : h.Ns mainGlobals mg) (a : PySem.W.nsIn K mainGlobals x = some (some (.ref C)))
    {nm q : Str} {N : Addr} {bs : List Value} {sn : List Str} {sub : List Value} {ab : Bool} {col : Option Bool} {dd : Option Addr} {m0 m1 m2 m3 m5 : Option Value}
    (xl : K.lookup C = some (excClassObj nm q C N bs [.ref R, .type "ValueError", .type "Exception", .type "BaseException", .type "object"] true sn sub ab col dd m0 m1 m2 m3 m5 "ValueError.__new__"))
    (i : PySem.W.findIn K (.ref C) "__init__" = some (some (.ref fI))) (o : clsB K C fI fl = true) (F : FnOk P w K mg base CX0 1 fI fd ps (spI K fl)) (b : Binds K fd ps []) : Mk P w K mg base C x fl := by
  simp only [clsB, Bool.and_eq_true, beq_iff_eq, List.all_eq_true] at o
  obtain ⟨o1, o2, o3, o4, o5⟩ := o
  have E := excB_ok o1
  refine ⟨⟨⟨nm, q, N, bs, _, sn, sub, ab, col, dd, m0, m1, m2, m3, m5, xl, ?_⟩, o2, E.ec.hs, E.ty, E.kp⟩, PySem.W.mg_of X G a, E.xf, E.ec, o3, fI, fd, ps, i, o4, F, b⟩
  show PySem.HandSPX.refsVE [.type "ValueError", .type "Exception", .type "BaseException", .type "object"] = true
  decide +kernel
/-- caught by its own name -/
theorem exm_own {K : PySem.W.Frag} {C fI : Addr} {fl : List Str} (o : clsB K C fI fl = true) (s : PySem.W.subIn K (.ref C) (.ref C) = some true) : PySem.W.exmOne K (.ref C) (.ref C) = some true := by
  have E := clsB_exc o
  exact PySem.W.exm_ref E.ec.hs E.ec.hd E.ty s
end Cm

set_option linter.all false
/-! displays of tuples out of written texts, written numbers and names, as one step -/
namespace Cm
open PySem L2 PySem.Spec PyProof.Rows
inductive DX where
  | str (x : Str)
  | int (i : Int)
  | slot (i : Nat)
  | tup (xs : List DX)
mutual
def DX.data (ρ : Nat → PyData) : DX → PyData
  | .str x => .str x
  | .int i => .int i
  | .slot i => ρ i
  | .tup xs => .tuple (DX.datas ρ xs)
def DX.datas (ρ : Nat → PyData) : List DX → List PyData
  | [] => []
  | x :: xs => x.data ρ :: DX.datas ρ xs
end
mutual
def DX.slots : DX → List Nat
  | .str _ => []
  | .int _ => []
  | .slot i => [i]
  | .tup xs => DX.slotss xs
def DX.slotss : List DX → List Nat
  | [] => []
  | x :: xs => x.slots ++ DX.slotss xs
end
/-- the names hold such data -/
def Has (K : PySem.W.Frag) (ρ : Nat → PyData) (σ : L2.St) (H : Hp) : List Nat → Prop
  | [] => True
  | i :: r => (∃ v, σ[i]? = some (some v) ∧ Dp K H v (ρ i)) ∧ Has K ρ σ H r
theorem Has.same {K : PySem.W.Frag} {ρ : Nat → PyData} {σ : L2.St} {H H' : Hp} (s : Same H H') : ∀ {l : List Nat}, Has K ρ σ H l → Has K ρ σ H' l
  | [], _ => trivial
  | _ :: _, ⟨⟨v, e, h⟩, r⟩ => ⟨⟨v, e, dp_same s _ _ h⟩, Has.same s r⟩
theorem Has.app {K : PySem.W.Frag} {ρ : Nat → PyData} {σ : L2.St} {H : Hp} : ∀ {l m : List Nat}, Has K ρ σ H (l ++ m) → Has K ρ σ H l ∧ Has K ρ σ H m
  | [], _, h => ⟨trivial, h⟩
  | _ :: _, _, ⟨a, r⟩ => ⟨⟨a, (Has.app r).1⟩, (Has.app r).2⟩
def tD (K : PySem.W.Frag) (d : DX) : TE := fun σ H Q => ∃ ρ : Nat → PyData, Has K ρ σ H d.slots ∧ ∀ v H', Same H H' → Dp K H' v (d.data ρ) → Q v H'
def tDs (K : PySem.W.Frag) (ds : List DX) : TA := fun σ H Q => ∃ ρ : Nat → PyData, Has K ρ σ H (DX.slotss ds) ∧ ∀ vs H', Same H H' → DpAll K H' vs (DX.datas ρ ds) → Q vs H'
section
variable {X : Cx} {K : PySem.W.Frag}
theorem pd_str {x : Str} {j : Nat} {pos : Pos} : PE X (.Constant (.str x) j pos) (tD K (.str x)) :=
  ⟨fun pins s σ H Q I ⟨ρ, _, k⟩ => pe_str.run pins s σ H Q I (k _ H (Same.refl H) (.str x))⟩
theorem pd_int {i : Int} {j : Nat} {pos : Pos} : PE X (.Constant (.int i) j pos) (tD K (.int i)) :=
  ⟨fun pins s σ H Q I ⟨ρ, _, k⟩ => pe_int.run pins s σ H Q I (k _ H (Same.refl H) (.int i))⟩
theorem pd_slot {i : Nat} {e : Expr} (h : PE X e (tVar i)) : PE X e (tD K (.slot i)) :=
  ⟨fun pins s σ H Q I ⟨ρ, ⟨⟨v, ev, hv⟩, _⟩, k⟩ => h.run pins s σ H Q I ⟨v, ev, k v H (Same.refl H) hv⟩⟩
theorem pd_nil : PA X [] (tDs K []) :=
  ⟨fun pos pins s σ H Q I ⟨ρ, _, k⟩ => pa_nil.run pos pins s σ H Q I (k [] H (Same.refl H) .nil)⟩
theorem pd_cons {e : Expr} {es : List Expr} {d : DX} {ds : List DX} (h : PE X e (tD K d)) (r : PA X es (tDs K ds)) (hs : starEach (e :: es) X.env = (false, eval e X.env) :: starEach es X.env := by rfl) : PA X (e :: es) (tDs K (d :: ds)) :=
  ⟨fun pos pins s σ H Q I ⟨ρ, hh, k⟩ => (pa_cons h r hs).run pos pins s σ H Q I
    ⟨ρ, (Has.app hh).1, fun v H1 s1 hv => ⟨ρ, (Has.app hh).2.same s1, fun vs H2 s2 hvs => k (v :: vs) H2 (s1.trans s2) (.cons (dp_same s2 _ _ hv) hvs)⟩⟩⟩
theorem datas_len {ρ : Nat → PyData} : ∀ ds : List DX, (DX.datas ρ ds).length = ds.length
  | [] => rfl
  | d :: ds => congrArg (· + 1) (datas_len ds)
theorem pd_tup {es : List Expr} {ds : List DX} {k : Nat} {pos : Pos} (h : PA X es (tDs K ds)) (hl : ds.length ≤ 1000 := by decide) : PE X (.Tuple es k pos) (tD K (.tup ds)) :=
  ⟨fun pins s σ H Q I ⟨ρ, hh, k⟩ => (pe_tup h).run pins s σ H Q I ⟨ρ, hh, fun vs H1 s1 hvs => ⟨by
      have e := DpAll.len hvs
      rw [datas_len] at e
      rw [e]
      exact Nat.le_trans hl (by decide), fun p hp => k _ _ (s1.trans (same_new hp)) (.tup (.inl (.inl upd_same)) (dps_same (same_new hp) _ _ hvs))⟩⟩⟩
end
theorem iteEq {x y : Str} {A B : Prop} (h : x = y) (a : A) : if decide (V.str x = V.str y) = true then A else B := by
  rw [decS, decide_eq_true h]
  exact iteT a
theorem iteNe {x y : Str} {A B : Prop} (h : ¬ x = y) (b : B) : if decide (V.str x = V.str y) = true then A else B := by
  rw [decS, decide_eq_false h]
  exact iteF b
theorem iteIn {x : Str} {ws : List Str} {A B : Prop} (h : x ∈ ws) (a : A) : if inV (.str x) (ws.map V.str) = true then A else B := by
  rw [in_words, decide_eq_true h]
  exact iteT a
theorem iteNi {x : Str} {ws : List Str} {A B : Prop} (h : ¬ x ∈ ws) (b : B) : if inV (.str x) (ws.map V.str) = true then A else B := by
  rw [in_words, decide_eq_false h]
  exact iteF b
theorem mem_str {ws : List Str} {v : V} (h : v ∈ ws.map V.str) : ∃ w, w ∈ ws ∧ v = .str w := by
  obtain ⟨w, hw, rfl⟩ := List.mem_map.mp h
  exact ⟨w, hw, rfl⟩
end Cm

namespace K06
open PySem L2 Cm
abbrev rowW : List Str := ["keep", "once", "piece"]
abbrev roadW : List Str := ["to", "on"]
/-- a thing's data and the row of frames that it has -/
inductive ThD : PyData → Option (List Int) → Prop
  | row {w : Str} {r : List Int} {post : List PyData} (hw : w ∈ rowW) : ThD (.tuple (.str w :: intsT r :: post)) (some r)
  | way {w : Str} {r : List Int} {post : List PyData} {th : PyData} (hw : w ∈ roadW) : ThD (.tuple [.str "way", .tuple (.str w :: intsT r :: post), th]) (some r)
  | way0 {w : Str} {post : List PyData} {th : PyData} (hw : ¬ w ∈ roadW) : ThD (.tuple [.str "way", .tuple (.str w :: post), th]) Option.none
  | oth {w : Str} {ds : List PyData} (h1 : ¬ w ∈ rowW) (h2 : ¬ w = "way") : ThD (.tuple (.str w :: ds)) Option.none
def RowV (K : PySem.W.Frag) (H : Hp) (u : V) : Option (List Int) → Prop
  | .none => u = .non
  | some r => Dp K H u (intsT r)
def spRowOf (K : PySem.W.Frag) : Sp := fun vs H Q _ => ∃ (v : V) (d : PyData) (o : Option (List Int)), vs = [v] ∧ Dp K H v d ∧ ThD d o ∧ ∀ u H', Same H H' → RowV K H' u o → Q u H'
theorem dp_hd {K : PySem.W.Frag} {H : Hp} {v : V} {w : Str} {ds : List PyData} (h : Dp K H v (.tuple (.str w :: ds))) : ∃ t its, v = .ref t ∧ SqT K H t (.str w :: its) ∧ DpAll K H its ds := by
  cases h with
  | @tup a its ds hs ha =>
    cases ha with
    | cons h1 h2 =>
      cases h1
      exact ⟨a, _, rfl, hs, h2⟩
theorem thD (t : Tn) : ThD t.enc t.row := by
  cases t with
  | pair a b => exact .oth (w := "pair") (by decide +kernel) (by decide +kernel)
  | wind a b => exact .oth (w := "wind") (by decide +kernel) (by decide +kernel)
  | fn n vs => exact .oth (w := "fun") (by decide +kernel) (by decide +kernel)
  | wait n vs => exact .oth (w := "wait") (by decide +kernel) (by decide +kernel)
  | pass b => exact .oth (w := "pass") (by decide +kernel) (by decide +kernel)
  | mark => exact .oth (w := "mark") (by decide +kernel) (by decide +kernel)
  | keep fs => exact .row (w := "keep") (by decide +kernel)
  | piece fs => exact .row (w := "piece") (by decide +kernel)
  | once fs u => exact .row (w := "once") (by decide +kernel)
  | give r w =>
    cases r with
    | to fs k => exact .way (w := "to") (by decide +kernel)
    | on fs => exact .way (w := "on") (by decide +kernel)
    | off => exact .way0 (w := "off") (post := []) (by decide +kernel)
    | out => exact .way0 (w := "out") (post := []) (by decide +kernel)
  | call r w vs =>
    cases r with
    | to fs k => exact .way (w := "to") (by decide +kernel)
    | on fs => exact .way (w := "on") (by decide +kernel)
    | off => exact .way0 (w := "off") (post := []) (by decide +kernel)
    | out => exact .way0 (w := "out") (post := []) (by decide +kernel)
section
variable {P : Program} {w : World} {K : PySem.W.Frag} {mg : Str → Option Value} {base : Heap}
abbrev s_p_row_of : Stmt := top 4
abbrev N_p_row_of : List Str := ["thing"]
theorem sc_p_row_of : FnScope N_p_row_of ["thing"] (defScope s_p_row_of) := ⟨rfl, rfl, rfl, by decide +kernel, rfl, by decide +kernel, by decide +kernel⟩
theorem ok_row_of (D : At K mg "row_of" s_p_row_of ["thing"]) : Cl P w K mg base 1 "row_of" (spRowOf K) := by
  refine cl_of D sc_p_row_of (fun vs H Q E h => ?_) fun f cdv A outer s H vs Q E hr h => ?_
  · obtain ⟨v, d, o, rfl, _⟩ := h
    rfl
  · obtain ⟨v, d, o, rfl, hd, ht, k⟩ := h
    refine ⟨_, (pss_cons (ps_if (pt_inW (pe_ix ix_tup (pv 0) pe_int (fun _ _ => rfl)) (.cons (.cons (.cons .nil))) (show 3 ≤ sizeLine by decide) (by rfl))
        (pss_one (ps_ret (pe_ix ix_tup (pv 0) pe_int (fun _ _ => rfl))))
        pss_nil)
      (pss_cons (ps_if (PW.pt (pw_and (pt_cmpR op_eq (pe_ix ix_tup (pv 0) pe_int (fun _ _ => rfl)) pe_str (nomark _)) (pw_and1 (pt_inW (pe_ix ix_tup (pe_ix ix_tup (pv 0) pe_int (fun _ _ => rfl)) pe_int (fun _ _ => rfl)) (.cons (.cons .nil)) (show 2 ≤ sizeLine by decide) (by rfl)))))
        (pss_one (ps_ret (pe_ix ix_tup (pe_ix ix_tup (pv 0) pe_int (fun _ _ => rfl)) pe_int (fun _ _ => rfl))))
        pss_nil)
      (pss_one (ps_ret pe_non)))), ?_⟩
    cases ht with
    | row hw =>
      obtain ⟨t, its, rfl, hs, hx⟩ := dp_hd hd
      refine ⟨_, rfl, t, _, _, _, rfl, rfl, hs, atI_nat (j := 0) rfl, rfl, fun H1 s1 => ?_⟩
      refine iteIn (ws := rowW) hw ?_
      cases hx with
      | cons h1 h2 =>
        refine ⟨_, rfl, t, _, _, _, rfl, rfl, sqt_same s1 hs, atI_nat (j := 1) rfl, ?_⟩
        exact k _ _ s1 (dp_same s1 _ _ h1)
    | way hw =>
      obtain ⟨t, its, rfl, hs, hx⟩ := dp_hd hd
      refine ⟨_, rfl, t, _, _, _, rfl, rfl, hs, atI_nat (j := 0) rfl, rfl, fun H1 s1 => ?_⟩
      refine iteNi (ws := rowW) (by decide +kernel) ?_
      cases hx with
      | cons h1 h2 =>
        obtain ⟨t2, its2, rfl, hs2, hx2⟩ := dp_hd h1
        refine ⟨_, rfl, t, _, _, _, rfl, rfl, sqt_same s1 hs, atI_nat (j := 0) rfl, rfl, _, rfl, ?_⟩
        refine iteEq rfl ?_
        refine ⟨_, rfl, t, _, _, _, rfl, rfl, sqt_same s1 hs, atI_nat (j := 1) rfl, t2, _, _, _, rfl, rfl, sqt_same s1 hs2, atI_nat (j := 0) rfl, rfl, fun H2 s2 => ?_⟩
        refine iteIn (ws := roadW) hw ?_
        have s12 := s1.trans s2
        cases hx2 with
        | cons h3 h4 =>
          refine ⟨_, rfl, t, _, _, _, rfl, rfl, sqt_same s12 hs, atI_nat (j := 1) rfl, t2, _, _, _, rfl, rfl, sqt_same s12 hs2, atI_nat (j := 1) rfl, ?_⟩
          exact k _ _ s12 (dp_same s12 _ _ h3)
    | way0 hw =>
      obtain ⟨t, its, rfl, hs, hx⟩ := dp_hd hd
      refine ⟨_, rfl, t, _, _, _, rfl, rfl, hs, atI_nat (j := 0) rfl, rfl, fun H1 s1 => ?_⟩
      refine iteNi (ws := rowW) (by decide +kernel) ?_
      cases hx with
      | cons h1 h2 =>
        obtain ⟨t2, its2, rfl, hs2, hx2⟩ := dp_hd h1
        refine ⟨_, rfl, t, _, _, _, rfl, rfl, sqt_same s1 hs, atI_nat (j := 0) rfl, rfl, _, rfl, ?_⟩
        refine iteEq rfl ?_
        refine ⟨_, rfl, t, _, _, _, rfl, rfl, sqt_same s1 hs, atI_nat (j := 1) rfl, t2, _, _, _, rfl, rfl, sqt_same s1 hs2, atI_nat (j := 0) rfl, rfl, fun H2 s2 => ?_⟩
        refine iteNi (ws := roadW) hw ?_
        exact k _ _ (s1.trans s2) rfl
    | oth g1 g2 =>
      obtain ⟨t, its, rfl, hs, hx⟩ := dp_hd hd
      refine ⟨_, rfl, t, _, _, _, rfl, rfl, hs, atI_nat (j := 0) rfl, rfl, fun H1 s1 => ?_⟩
      refine iteNi (ws := rowW) g1 ?_
      refine ⟨_, rfl, t, _, _, _, rfl, rfl, sqt_same s1 hs, atI_nat (j := 0) rfl, rfl, _, rfl, ?_⟩
      refine iteNe g2 ?_
      exact k _ _ s1 rfl
/-- the values of a thing -/
inductive WsD : PyData → List W → Prop
  | two {w : Str} {n : PyData} {vs : List W} (h : w ∈ (["fun", "wait"] : List Str)) : WsD (.tuple [.str w, n, wsT vs]) vs
  | pair {w : Str} {a b : W} (h : w ∈ (["pair", "wind"] : List Str)) : WsD (.tuple [.str w, a.enc, b.enc]) [a, b]
  | oth {w : Str} {r : List PyData} (h1 : ¬ w ∈ (["fun", "wait"] : List Str)) (h2 : ¬ w ∈ (["pair", "wind"] : List Str)) (h3 : ¬ w = "way") : WsD (.tuple (.str w :: r)) []
  | give {rd : PyData} {a : W} : WsD (.tuple [.str "way", rd, .tuple [.str "give", a.enc]]) [a]
  | call {rd : PyData} {a : W} {vs : List W} : WsD (.tuple [.str "way", rd, .tuple [.str "call", a.enc, wsT vs]]) (a :: vs)
theorem wsD (t : Tn) : WsD t.enc t.ws := by
  cases t with
  | pair a b => exact .pair (by decide +kernel)
  | wind a b => exact .pair (by decide +kernel)
  | fn n vs => exact .two (by decide +kernel)
  | wait n vs => exact .two (by decide +kernel)
  | pass b => exact .oth (by decide +kernel) (by decide +kernel) (by decide +kernel)
  | mark => exact .oth (by decide +kernel) (by decide +kernel) (by decide +kernel)
  | keep fs => exact .oth (by decide +kernel) (by decide +kernel) (by decide +kernel)
  | piece fs => exact .oth (by decide +kernel) (by decide +kernel) (by decide +kernel)
  | once fs u => exact .oth (by decide +kernel) (by decide +kernel) (by decide +kernel)
  | give r w => exact .give
  | call r w vs => exact .call
def spWo (K : PySem.W.Frag) : Sp := fun vs H Q _ => ∃ (v : V) (d : PyData) (ws : List W), vs = [v] ∧ Dp K H v d ∧ WsD d ws ∧ ws.length ≤ 1000 ∧ ∀ (a : Addr) (us : List V) H', Same H H' → SqT K H' a us → DpAll K H' us (ws.map W.enc) → Q (.ref a) H'
abbrev s_p_worths_of : Stmt := top 5
abbrev N_p_worths_of : List Str := ["thing", "word", "then"]
theorem sc_p_worths_of : FnScope N_p_worths_of ["thing"] (defScope s_p_worths_of) := ⟨rfl, rfl, rfl, by decide +kernel, rfl, by decide +kernel, by decide +kernel⟩
theorem ok_worths_of (D : At K mg "worths_of" s_p_worths_of ["thing"]) : Cl P w K mg base 1 "worths_of" (spWo K) := by
  refine cl_of D sc_p_worths_of (fun vs H Q E h => ?_) fun f cdv A outer s H vs Q E hr h => ?_
  · obtain ⟨v, d, ws, rfl, _⟩ := h
    rfl
  · obtain ⟨v, d, ws, rfl, hd, hw, hlen, k⟩ := h
    refine ⟨_, (pss_cons (ps_set (i := 1) sc_p_worths_of.nd rfl (Or.inl rfl) (pe_ix ix_tup (pv 0) pe_int (fun _ _ => rfl)))
      (pss_cons (ps_if (pt_inW (pv 1) (.cons (.cons .nil)) (show 2 ≤ sizeLine by decide) (by rfl))
        (pss_one (ps_ret (pe_ix ix_tup (pv 0) pe_int (fun _ _ => rfl))))
        pss_nil)
      (pss_cons (ps_if (pt_inW (pv 1) (.cons (.cons .nil)) (show 2 ≤ sizeLine by decide) (by rfl))
        (pss_one (ps_ret (pe_slice sl_tupA (pv 0) (po_some pe_int) po_none)))
        pss_nil)
      (pss_cons (ps_if (pt_cmpR op_ne (pv 1) pe_str (nomark _))
        (pss_one (ps_ret (pe_tup pa_nil)))
        pss_nil)
      (pss_cons (ps_set (i := 2) sc_p_worths_of.nd rfl (Or.inl rfl) (pe_ix ix_tup (pv 0) pe_int (fun _ _ => rfl)))
      (pss_one (ps_ret (pe_ifExp (pt_cmpR op_eq (pe_ix ix_tup (pv 2) pe_int (fun _ _ => rfl)) pe_str (nomark _)) (pe_slice sl_tupA (pv 2) (po_some pe_int) po_none) (pe_op op_catA (pe_slice sl_tupA (pv 2) (po_some pe_int) (po_some pe_int)) (pe_ix ix_tup (pv 2) pe_int (fun _ _ => rfl))))))))))), ?_⟩
    cases hw with
    | @two w' n vs' h =>
      obtain ⟨t, its, rfl, hs, hx⟩ := dp_hd hd
      refine ⟨_, rfl, t, _, _, _, rfl, rfl, hs, atI_nat (j := 0) rfl, ?_⟩
      refine ⟨_, rfl, rfl, fun H1 s1 => iteIn (ws := ["fun", "wait"]) h ?_⟩
      cases hx with
      | cons h1 h2 =>
        cases h2 with
        | cons h3 h4 =>
          obtain ⟨a, us, rfl, ha, hu⟩ := dp_tup h3
          refine ⟨_, rfl, t, _, _, _, rfl, rfl, sqt_same s1 hs, atI_nat (j := 2) rfl, ?_⟩
          exact k a us _ s1 (sqt_same s1 ha) (dps_same s1 _ _ hu)
    | @pair w' a b h =>
      obtain ⟨t, its, rfl, hs, hx⟩ := dp_hd hd
      have hil := DpAll.len hx
      refine ⟨_, rfl, t, _, _, _, rfl, rfl, hs, atI_nat (j := 0) rfl, ?_⟩
      have n1 : ¬ w' ∈ (["fun", "wait"] : List Str) := by
        intro m
        simp only [List.mem_cons, List.not_mem_nil, or_false] at h m
        rcases h with rfl | rfl <;> rcases m with m | m <;> exact absurd m (by decide +kernel)
      refine ⟨_, rfl, rfl, fun H1 s1 => iteNi (ws := ["fun", "wait"]) n1 ?_⟩
      refine ⟨_, rfl, rfl, fun H2 s2 => iteIn (ws := ["pair", "wind"]) h ?_⟩
      refine ⟨_, rfl, 1, rfl, ?_⟩
      refine sl_from (k := 1) (sqt_same (s1.trans s2) hs) (by show 1 ≤ its.length + 1; omega) fun t2 H3 s3 ht2 => ?_
      exact k t2 its _ ((s1.trans s2).trans s3) ht2 (dps_same ((s1.trans s2).trans s3) _ _ hx)
    | @oth w' r h1 h2 h3 =>
      obtain ⟨t, its, rfl, hs, hx⟩ := dp_hd hd
      refine ⟨_, rfl, t, _, _, _, rfl, rfl, hs, atI_nat (j := 0) rfl, ?_⟩
      refine ⟨_, rfl, rfl, fun H1 s1 => iteNi (ws := ["fun", "wait"]) h1 ?_⟩
      refine ⟨_, rfl, rfl, fun H2 s2 => iteNi (ws := ["pair", "wind"]) h2 ?_⟩
      refine ⟨_, rfl, rfl, _, rfl, ?_⟩
      rw [decS, decide_eq_false h3]
      refine iteT ⟨by show 0 ≤ sizeLine; decide, fun p hp => ?_⟩
      exact k p [] _ ((s1.trans s2).trans (same_new hp)) (.inl (.inl upd_same)) .nil
    | @give rd a =>
      obtain ⟨t, its, rfl, hs, hx⟩ := dp_hd hd
      obtain ⟨v1, v2, rfl, h1, h2⟩ : ∃ v1 v2, its = [v1, v2] ∧ Dp K H v1 rd ∧ Dp K H v2 (.tuple [.str "give", a.enc]) := by
        cases hx with
        | cons a1 a2 => cases a2 with
          | cons b1 b2 => cases b2; exact ⟨_, _, rfl, a1, b1⟩
      refine ⟨_, rfl, t, _, _, _, rfl, rfl, hs, atI_nat (j := 0) rfl, ?_⟩
      refine ⟨_, rfl, rfl, fun H1 s1 => iteNi (ws := ["fun", "wait"]) (by decide +kernel) ?_⟩
      refine ⟨_, rfl, rfl, fun H2 s2 => iteNi (ws := ["pair", "wind"]) (by decide +kernel) ?_⟩
      have s12 := s1.trans s2
      refine ⟨_, rfl, rfl, _, rfl, ?_⟩
      rw [decS, decide_eq_true rfl]
      refine iteF ⟨_, rfl, t, _, _, _, rfl, rfl, sqt_same s12 hs, atI_nat (j := 2) rfl, ?_⟩
      obtain ⟨t2, its2, rfl, hs2, hx2⟩ := dp_hd (dp_same s12 _ _ h2)
      have hil := DpAll.len hx2
      refine ⟨_, rfl, t2, _, _, _, rfl, rfl, hs2, atI_nat (j := 0) rfl, rfl, _, rfl, iteEq rfl ?_⟩
      refine ⟨_, rfl, 1, rfl, ?_⟩
      refine sl_from (k := 1) hs2 (by show 1 ≤ its2.length + 1; omega) fun t3 H3 s3 ht3 => ?_
      exact k t3 its2 _ (s12.trans s3) ht3 (dps_same s3 _ _ hx2)
    | @call rd a vs' =>
      obtain ⟨t, its, rfl, hs, hx⟩ := dp_hd hd
      obtain ⟨v1, v2, rfl, h1, h2⟩ : ∃ v1 v2, its = [v1, v2] ∧ Dp K H v1 rd ∧ Dp K H v2 (.tuple [.str "call", a.enc, wsT vs']) := by
        cases hx with
        | cons a1 a2 => cases a2 with
          | cons b1 b2 => cases b2; exact ⟨_, _, rfl, a1, b1⟩
      refine ⟨_, rfl, t, _, _, _, rfl, rfl, hs, atI_nat (j := 0) rfl, ?_⟩
      refine ⟨_, rfl, rfl, fun H1 s1 => iteNi (ws := ["fun", "wait"]) (by decide +kernel) ?_⟩
      refine ⟨_, rfl, rfl, fun H2 s2 => iteNi (ws := ["pair", "wind"]) (by decide +kernel) ?_⟩
      have s12 := s1.trans s2
      refine ⟨_, rfl, rfl, _, rfl, ?_⟩
      rw [decS, decide_eq_true rfl]
      refine iteF ⟨_, rfl, t, _, _, _, rfl, rfl, sqt_same s12 hs, atI_nat (j := 2) rfl, ?_⟩
      obtain ⟨t2, its2, rfl, hs2, hx2⟩ := dp_hd (dp_same s12 _ _ h2)
      obtain ⟨u1, u2, rfl, g1, g2⟩ : ∃ u1 u2, its2 = [u1, u2] ∧ Dp K H2 u1 a.enc ∧ Dp K H2 u2 (wsT vs') := by
        cases hx2 with
        | cons a1 a2 => cases a2 with
          | cons b1 b2 => cases b2; exact ⟨_, _, rfl, a1, b1⟩
      obtain ⟨t3, us, rfl, hs3, hu3⟩ := dp_tup g2
      have hul := DpAll.len hu3
      rw [List.length_map] at hul
      refine ⟨_, rfl, t2, _, _, _, rfl, rfl, hs2, atI_nat (j := 0) rfl, rfl, _, rfl, iteNe (by decide +kernel) ?_⟩
      refine ⟨_, rfl, 1, rfl, 2, rfl, t2, _, rfl, hs2, fun q => absurd q.1 (show ¬ (HT.sIx 3 0 (some 1) = 0) by decide), fun _ p hp => ?_⟩
      have s3 := same_new (o := .tup (cutV [.str "call", u1, .ref t3] (some 1) (some 2))) hp
      refine ⟨_, rfl, t2, _, _, _, rfl, rfl, sqt_same s3 hs2, atI_nat (j := 2) rfl, ?_⟩
      refine cat_any (.inl (.inl upd_same)) (sqt_same s3 hs3) (Nat.le_trans (show 1 + us.length ≤ 1001 by
        have hl2 : (a :: vs').length ≤ 1000 := hlen
        rw [List.length_cons] at hl2
        omega) (by decide)) fun t4 H4 s4 ht4 => ?_
      exact k t4 _ _ ((s12.trans s3).trans s4) ht4 (.cons (dp_same (s3.trans s4) _ _ g1) (dps_same (s3.trans s4) _ _ hu3))
end
end K06

namespace K06
open PySem L2 Cm
theorem word_of (t : Tn) : (∃ b, t = .pass b) ∨ ∃ w r, t.enc = .tuple (.str w :: r) ∧ ¬ w = "pass" ∧ t.nm = t.row.getD [] ++ t.ws.flatMap W.refs := by
  cases t with
  | pass b => exact .inl ⟨b, rfl⟩
  | pair a b => exact .inr ⟨_, _, rfl, by decide +kernel, rfl⟩
  | wind a b => exact .inr ⟨_, _, rfl, by decide +kernel, rfl⟩
  | fn n vs => exact .inr ⟨_, _, rfl, by decide +kernel, rfl⟩
  | wait n vs => exact .inr ⟨_, _, rfl, by decide +kernel, rfl⟩
  | mark => exact .inr ⟨_, _, rfl, by decide +kernel, rfl⟩
  | keep fs => exact .inr ⟨_, _, rfl, by decide +kernel, rfl⟩
  | piece fs => exact .inr ⟨_, _, rfl, by decide +kernel, rfl⟩
  | once fs u => exact .inr ⟨_, _, rfl, by decide +kernel, rfl⟩
  | give r w => exact .inr ⟨_, _, rfl, by decide +kernel, rfl⟩
  | call r w vs => exact .inr ⟨_, _, rfl, by decide +kernel, rfl⟩
theorem refs_len (vs : List W) : (vs.flatMap W.refs).length ≤ vs.length := by
  induction vs with
  | nil => exact Nat.le_refl _
  | cons a l ih =>
    rw [List.flatMap_cons, List.length_append, List.length_cons]
    have : a.refs.length ≤ 1 := by cases a <;> first | exact Nat.le_refl 1 | exact Nat.zero_le 1
    omega
theorem nm_len {t : Tn} (z : t.sz) : t.nm.length ≤ 41 := by
  rcases word_of t with ⟨b, rfl⟩ | ⟨_, _, _, _, e⟩
  · exact (by decide : 1 ≤ 41)
  · rw [e, List.length_append]
    have h1 := refs_len t.ws
    have h2 := z.2
    have h3 : (t.row.getD []).length ≤ 20 := by
      cases er : t.row with
      | none => exact Nat.zero_le _
      | some fs => exact z.1 fs er
    omega
def spBo (K : PySem.W.Frag) : Sp := fun vs H Q _ => ∃ (v : V) (t : Tn), vs = [v] ∧ Dp K H v t.enc ∧ t.sz ∧ ∀ (r : Addr) (H' : Hp), Same H H' → H r = none → H' r = some (.lst (t.nm.map V.int)) → Q (.ref r) H'
section
variable {P : Program} {w : World} {K : PySem.W.Frag} {mg : Str → Option Value} {base : Heap}
abbrev s_p_births_of : Stmt := top 7
abbrev N_p_births_of : List Str := ["thing"]
theorem sc_p_births_of : FnScope N_p_births_of ["thing"] (defScope s_p_births_of) := ⟨rfl, rfl, rfl, by decide +kernel, rfl, by decide +kernel, by decide +kernel⟩
theorem ok_births_of (T : Txt mg) (c_p_births_in : Cl P w K mg base 1 "births_in" (spBi K)) (c_p_row_of : Cl P w K mg base 1 "row_of" (spRowOf K)) (c_p_worths_of : Cl P w K mg base 1 "worths_of" (spWo K)) (D : At K mg "births_of" s_p_births_of ["thing"]) : Cl P w K mg base 2 "births_of" (spBo K) := by
  refine cl_of (k := 1) D sc_p_births_of (fun vs H Q E h => ?_) fun f cdv A outer s H vs Q E hr h => ?_
  · obtain ⟨v, t, rfl, _⟩ := h
    rfl
  · obtain ⟨v, t, rfl, hd, hz, k⟩ := h
    refine ⟨_, (pss_cons (ps_if (pt_cmpR op_eq (pe_ix ix_tup (pv 0) pe_int (fun _ _ => rfl)) pe_str (nomark _))
        (pss_one (ps_ret (pe_lst (pa_cons (pe_ix ix_tup (pv 0) pe_int (fun _ _ => rfl)) pa_nil))))
        pss_nil)
      (pss_one (ps_ret (pe_op op_cat (pe_callTy call_list_of (by rfl) T.list (by decide +kernel) (pa_cons (pe_orT (pe_c c_p_row_of hr (by decide) (by rfl) (pa_cons (pv 0) pa_nil)) (pe_one (pe_tup pa_nil))) pa_nil)) (pe_c c_p_births_in hr (by decide) (by rfl) (pa_cons (pe_c c_p_worths_of hr (by decide) (by rfl) (pa_cons (pv 0) pa_nil)) pa_nil)))))), ?_⟩
    rcases word_of t with ⟨b, rfl⟩ | ⟨x, r, er, nx, en⟩
    · obtain ⟨a, its, rfl, hs, hx⟩ := dp_hd hd
      obtain ⟨rfl⟩ : its = [.int b] := by
        cases hx with
        | cons h1 h2 => cases h1; cases h2; rfl
      refine ⟨_, rfl, a, _, _, _, rfl, rfl, hs, atI_nat (j := 0) rfl, rfl, _, rfl, iteEq rfl ?_⟩
      refine ⟨_, rfl, a, _, _, _, rfl, rfl, hs, atI_nat (j := 1) rfl, by show 1 ≤ sizeLine; decide, fun p hp => ?_⟩
      exact k p _ (same_new hp) hp upd_same
    · have hd' := hd
      rw [er] at hd'
      obtain ⟨a, its, rfl, hs, hx⟩ := dp_hd hd'
      refine ⟨_, rfl, a, _, _, _, rfl, rfl, hs, atI_nat (j := 0) rfl, rfl, _, rfl, iteNe nx ?_⟩
      have wl : t.ws.length ≤ 1000 := Nat.le_trans hz.2 (by decide)
      -- behind the list of the row
      have rest : ∀ (l : Addr) (H3 : Hp), Same H H3 → H l = none → H3 l = some (.lst ((t.row.getD []).map V.int)) →
          (fun x H1 => tCall (spBi K) [] E0 (tCons (tCall (spWo K) [] E0 (tCons (tVar 0) tNil)) tNil) [some (V.ref a)] H1 fun y H2 => rCat x y H2 Q) (.ref l) H3 := fun l H3 s3 nl hl => by
        refine ⟨_, rfl, _, t.enc, t.ws, rfl, dp_same s3 _ _ hd, wsD t, wl, fun c us H4 s4 hc hu => ?_⟩
        refine ⟨c, us, t.ws, rfl, hc, hu, wl, fun l2 H5 s5 nl2 hl2 => ?_⟩
        refine ⟨l, l2, _, _, rfl, rfl, (s4.trans s5) _ _ hl, hl2, Nat.le_trans (show ((t.row.getD []).map V.int).length + ((t.ws.flatMap W.refs).map V.int).length ≤ 41 by
          have := nm_len hz
          rw [en, List.length_append] at this
          rw [List.length_map, List.length_map]
          exact this) (by decide), fun q hq => ?_⟩
        have s6 := same_new (o := .lst ((t.row.getD []).map V.int ++ (t.ws.flatMap W.refs).map V.int)) hq
        refine k q _ (((s3.trans s4).trans s5).trans s6) (free_of ((s3.trans s4).trans s5) hq) ?_
        rw [en, List.map_append]
        exact upd_same
      refine ⟨_, rfl, _, t.enc, t.row, rfl, hd, thD t, fun u H1 s1 hu => ?_⟩
      have none_case : ∀ H2, Same H H2 → t.row.getD [] = [] → tCons (tTup tNil) tNil [some (V.ref a)] H2 (fun xs H3 => ∃ p ys, xs = [.ref p] ∧ (SqL K H3 p ys ∨ SqT K H3 p ys) ∧ ∀ l, H3 l = none → (fun x H1 => tCall (spBi K) [] E0 (tCons (tCall (spWo K) [] E0 (tCons (tVar 0) tNil)) tNil) [some (V.ref a)] H1 fun y H2 => rCat x y H2 Q) (.ref l) (upd H3 l (.lst ys))) := fun H2 s2 e => by
        refine ⟨by show 0 ≤ sizeLine; decide, fun p hp => ?_⟩
        have s3 := same_new (o := .tup []) hp
        refine ⟨p, [], rfl, .inr (.inl (.inl upd_same)), fun l hl => ?_⟩
        exact rest l _ ((s2.trans s3).trans (same_new hl)) (free_of (s2.trans s3) hl) (by rw [e]; exact upd_same)
      cases eo : t.row with
      | none =>
        rw [eo] at hu
        obtain rfl : u = .non := hu
        refine ⟨false, rfl, iteF (none_case H1 s1 (by rw [eo]; rfl))⟩
      | some fs =>
        rw [eo] at hu
        obtain ⟨c, rfl, hc⟩ := dp_ints_inv (show Dp K H1 u (intsT fs) from hu)
        refine ⟨_, .inr (.inl ⟨_, hc, rfl⟩), ?_⟩
        cases fs with
        | nil => exact iteF (none_case H1 s1 (by rw [eo]; rfl))
        | cons i is =>
          refine iteT ⟨c, _, rfl, .inr hc, fun l hl => ?_⟩
          exact rest l _ (s1.trans (same_new hl)) (free_of s1 hl) (by rw [eo]; exact upd_same)
end
end K06

namespace K06
open PySem L2 Cm
def spRe (K : PySem.W.Frag) : Sp := fun vs H Q _ => ∃ (v : V) (x : W), vs = [v] ∧ Dp K H v x.enc ∧ ∀ (r : Addr) (H' : Hp), Same H H' → H r = none → H' r = some (.lst (x.refs.map V.int)) → Q (.ref r) H'
/-- what the law reads off a thing -/
inductive NmD : PyData → List Int → List W → Prop
  | row {w : Str} {fs : List Int} {post : List PyData} (h : w ∈ (["keep", "once", "piece"] : List Str)) : NmD (.tuple (.str w :: intsT fs :: post)) fs []
  | two {w : Str} {n : PyData} {vs : List W} (h : w ∈ (["fun", "wait"] : List Str)) : NmD (.tuple [.str w, n, wsT vs]) [] vs
  | pair {w : Str} {a b : W} (h : w ∈ (["pair", "wind"] : List Str)) : NmD (.tuple [.str w, a.enc, b.enc]) [] [a, b]
section
variable {P : Program} {w : World} {K : PySem.W.Frag} {mg : Str → Option Value} {base : Heap}
abbrev s_l_refs : Stmt := top 25
abbrev N_l_refs : List Str := ["_law_value"]
theorem sc_l_refs : FnScope N_l_refs ["_law_value"] (defScope s_l_refs) := ⟨rfl, rfl, rfl, by decide +kernel, rfl, by decide +kernel, by decide +kernel⟩
theorem ok_l_refs (T : Txt mg) (D : At K mg "_law_refs" s_l_refs ["_law_value"]) : Cl P w K mg base 1 "_law_refs" (spRe K) := by
  refine cl_of D sc_l_refs (fun vs H Q E h => ?_) fun f cdv A outer s H vs Q E hr h => ?_
  · obtain ⟨v, x, rfl, _⟩ := h
    rfl
  · obtain ⟨v, x, rfl, hd, k⟩ := h
    refine ⟨_, (pss_one (ps_ret (pe_ifExp (PW.pt (pw_and (pt_val (pe_callB call_isi (by rfl) T.isinstance (by decide +kernel) (pa_cons (pv 0) (pa_cons (pe_bltn (v := .ty "tuple") (by rfl) T.tuple (by rfl) (show RelV (.ty "tuple") (.type "tuple") from rfl)) pa_nil)))) (pw_and1 (pt_cmpR op_eq (pe_callB call_len_seq (by rfl) T.len (by decide +kernel) (pa_cons (pv 0) pa_nil)) pe_int (nomark _))))) (pe_lst (pa_cons (pe_ix ix_tup (pv 0) pe_int (fun _ _ => rfl)) pa_nil)) (pe_lst pa_nil)))), ?_⟩
    cases x with
    | int n =>
      cases hd
      refine ⟨_, rfl, _, _, _, _, false, rfl, .ty _, .base (.int _), rfl, _, rfl, iteF (iteF ?_)⟩
      exact ⟨by show 0 ≤ sizeLine; decide, fun p hp => k p _ (same_new hp) hp upd_same⟩
    | con c =>
      obtain ⟨b, vs, rfl, hb, hvs⟩ := dp_tup hd
      have hl1 := DpAll.len hvs
      refine ⟨_, rfl, _, _, _, _, true, rfl, .ty _, tyx_tup hb, kit_tup, _, rfl, iteT ⟨_, rfl, b, vs, rfl, .inr hb, rfl, _, rfl, ?_⟩⟩
      rw [show vs.length = 1 from hl1]
      exact iteF ⟨by show 0 ≤ sizeLine; decide, fun p hp => k p _ (same_new hp) hp upd_same⟩
    | ref y n =>
      obtain ⟨b, vs, rfl, hb, hvs⟩ := dp_tup hd
      have hl1 := DpAll.len hvs
      refine ⟨_, rfl, _, _, _, _, true, rfl, .ty _, tyx_tup hb, kit_tup, _, rfl, iteT ⟨_, rfl, b, vs, rfl, .inr hb, rfl, _, rfl, ?_⟩⟩
      rw [show vs.length = 2 from hl1]
      obtain ⟨v1, e1, h1⟩ := DpAll.at hvs (i := 1) (d := .int n) rfl
      cases h1
      exact iteT ⟨_, rfl, b, vs, _, _, rfl, rfl, hb, atI_nat (j := 1) e1, by show 1 ≤ sizeLine; decide, fun p hp => k p _ (same_new hp) hp upd_same⟩
end
end K06

set_option linter.all false
/-! displays of tuples whose parts may draw, as one step -/
namespace Cm
open PySem L2 PySem.Spec PyProof.Rows
inductive GX where
  | str (x : Str)
  | int (i : Int)
  | slot (i : Nat)
  | ex (n : Nat) (te : TE)
  | tup (xs : List GX)
mutual
def GX.data (ρ τ : Nat → PyData) : GX → PyData
  | .str x => .str x
  | .int i => .int i
  | .slot i => ρ i
  | .ex n _ => τ n
  | .tup xs => .tuple (GX.datas ρ τ xs)
def GX.datas (ρ τ : Nat → PyData) : List GX → List PyData
  | [] => []
  | x :: xs => x.data ρ τ :: GX.datas ρ τ xs
end
mutual
def GX.slots : GX → List Nat
  | .slot i => [i]
  | .tup xs => GX.slotss xs
  | _ => []
def GX.slotss : List GX → List Nat
  | [] => []
  | x :: xs => x.slots ++ GX.slotss xs
end
mutual
def GX.exs : GX → List (Nat × TE)
  | .ex n te => [(n, te)]
  | .tup xs => GX.exss xs
  | _ => []
def GX.exss : List GX → List (Nat × TE)
  | [] => []
  | x :: xs => x.exs ++ GX.exss xs
end
/-- the names hold such data, without lists -/
def HasF (K : PySem.W.Frag) (ρ : Nat → PyData) (σ : L2.St) (H : Hp) : List Nat → Prop
  | [] => True
  | i :: r => (∃ v, σ[i]? = some (some v) ∧ Dp K H v (ρ i) ∧ flatD (ρ i) = true) ∧ HasF K ρ σ H r
theorem HasF.kp {K : PySem.W.Frag} {M : Addr → Prop} {ρ : Nat → PyData} {σ : L2.St} {H H' : Hp} (s : Kp M H H') : ∀ {l : List Nat}, HasF K ρ σ H l → HasF K ρ σ H' l
  | [], _ => trivial
  | _ :: _, ⟨⟨v, e, h, f⟩, r⟩ => ⟨⟨v, e, dp_keep (fun _ _ q => s.tup q) _ _ f h, f⟩, HasF.kp s r⟩
theorem HasF.app {K : PySem.W.Frag} {ρ : Nat → PyData} {σ : L2.St} {H : Hp} : ∀ {l m : List Nat}, HasF K ρ σ H (l ++ m) → HasF K ρ σ H l ∧ HasF K ρ σ H m
  | [], _, h => ⟨trivial, h⟩
  | _ :: _, _, ⟨a, r⟩ => ⟨⟨a, (HasF.app r).1⟩, (HasF.app r).2⟩
/-- each part that draws gives data that is good, wherever it is asked -/
def AllE (K : PySem.W.Frag) (h c : Addr) (S : Nat → PyData → Prop) (σ : L2.St) (H : Hp) : List (Nat × TE) → Prop
  | [] => True
  | e :: r => (∀ H1, Kh h H H1 → Hand H1 h c → e.2 σ H1 fun x H2 => Kh h H1 H2 ∧ Hand H2 h c ∧ ∃ d, S e.1 d ∧ flatD d = true ∧ Dp K H2 x d) ∧ AllE K h c S σ H r
theorem AllE.kp {K : PySem.W.Frag} {h c : Addr} {S : Nat → PyData → Prop} {σ : L2.St} {H H' : Hp} (s : Kh h H H') : ∀ {l : List (Nat × TE)}, AllE K h c S σ H l → AllE K h c S σ H' l
  | [], _ => trivial
  | _ :: _, ⟨a, r⟩ => ⟨fun H1 k x => a H1 (s.trans k) x, AllE.kp s r⟩
theorem AllE.app {K : PySem.W.Frag} {h c : Addr} {S : Nat → PyData → Prop} {σ : L2.St} {H : Hp} : ∀ {l m : List (Nat × TE)}, AllE K h c S σ H (l ++ m) → AllE K h c S σ H l ∧ AllE K h c S σ H m
  | [], _, q => ⟨trivial, q⟩
  | _ :: _, _, ⟨a, r⟩ => ⟨⟨a, (AllE.app r).1⟩, (AllE.app r).2⟩
/-- what was drawn -/
def AllS (S : Nat → PyData → Prop) (τ : Nat → PyData) : List (Nat × TE) → Prop
  | [] => True
  | e :: r => S e.1 (τ e.1) ∧ AllS S τ r
def nums (l : List (Nat × TE)) : List Nat := l.map (·.1)
mutual
theorem flat_gdata {K : PySem.W.Frag} {ρ τ : Nat → PyData} {σ : L2.St} {H : Hp} : ∀ (d : GX), HasF K ρ σ H d.slots → (∀ n, flatD (τ n) = true) → flatD (d.data ρ τ) = true
  | .str _, _, _ => rfl
  | .int _, _, _ => rfl
  | .slot _, ⟨⟨_, _, _, f⟩, _⟩, _ => f
  | .ex n _, _, t => t n
  | .tup xs, h, t => by
    show flatDs (GX.datas ρ τ xs) = true
    exact flat_gdatas xs h t
theorem flat_gdatas {K : PySem.W.Frag} {ρ τ : Nat → PyData} {σ : L2.St} {H : Hp} : ∀ (ds : List GX), HasF K ρ σ H (GX.slotss ds) → (∀ n, flatD (τ n) = true) → flatDs (GX.datas ρ τ ds) = true
  | [], _, _ => rfl
  | d :: ds, h, t => by
    have h1 := flat_gdata d h.app.1 t
    have h2 := flat_gdatas ds h.app.2 t
    show (flatD (d.data ρ τ) && flatDs (GX.datas ρ τ ds)) = true
    rw [h1, h2]
    rfl
end
/-- the data of parts with numbers of their own -/
def put (τ : Nat → PyData) (n : Nat) (d : PyData) : Nat → PyData := fun m => if m = n then d else τ m
mutual
theorem data_eq {ρ τ τ' : Nat → PyData} : ∀ (d : GX), (∀ n ∈ nums d.exs, τ n = τ' n) → d.data ρ τ = d.data ρ τ'
  | .str _, _ => rfl
  | .int _, _ => rfl
  | .slot _, _ => rfl
  | .ex n te, h => h n List.mem_cons_self
  | .tup xs, h => congrArg PyData.tuple (datas_eq xs h)
theorem datas_eq {ρ τ τ' : Nat → PyData} : ∀ (ds : List GX), (∀ n ∈ nums (GX.exss ds), τ n = τ' n) → GX.datas ρ τ ds = GX.datas ρ τ' ds
  | [], _ => rfl
  | d :: ds, h => by
    have h' : ∀ n ∈ nums (d.exs ++ GX.exss ds), τ n = τ' n := h
    unfold nums at h'
    rw [List.map_append] at h'
    have e1 := data_eq (ρ := ρ) (τ := τ) (τ' := τ') d fun n m => h' n (List.mem_append_left _ m)
    have e2 := datas_eq (ρ := ρ) (τ := τ) (τ' := τ') ds fun n m => h' n (List.mem_append_right _ m)
    show d.data ρ τ :: GX.datas ρ τ ds = d.data ρ τ' :: GX.datas ρ τ' ds
    rw [e1, e2]
end
theorem alls_eq {S : Nat → PyData → Prop} {τ τ' : Nat → PyData} : ∀ {l : List (Nat × TE)}, (∀ n ∈ nums l, τ n = τ' n) → AllS S τ l → AllS S τ' l
  | [], _, _ => trivial
  | e :: r, h, ⟨a, b⟩ => ⟨by rw [← h e.1 List.mem_cons_self]; exact a, alls_eq (fun n m => h n (List.mem_cons_of_mem _ m)) b⟩
theorem alls_app {S : Nat → PyData → Prop} {τ : Nat → PyData} : ∀ {l m : List (Nat × TE)}, AllS S τ l → AllS S τ m → AllS S τ (l ++ m)
  | [], _, _, q => q
  | _ :: _, _, ⟨a, r⟩, q => ⟨a, alls_app r q⟩
def tG (K : PySem.W.Frag) (d : GX) : TE := fun σ H Q => ∃ (h c : Addr) (ρ : Nat → PyData) (S : Nat → PyData → Prop), Hand H h c ∧ HasF K ρ σ H d.slots ∧ AllE K h c S σ H d.exs ∧
  ∀ v H' τ, Kh h H H' → Hand H' h c → AllS S τ d.exs → (∀ n, flatD (τ n) = true) → Dp K H' v (d.data ρ τ) → Q v H'
def tGs (K : PySem.W.Frag) (ds : List GX) : TA := fun σ H Q => ∃ (h c : Addr) (ρ : Nat → PyData) (S : Nat → PyData → Prop), Hand H h c ∧ HasF K ρ σ H (GX.slotss ds) ∧ AllE K h c S σ H (GX.exss ds) ∧
  ∀ vs H' τ, Kh h H H' → Hand H' h c → AllS S τ (GX.exss ds) → (∀ n, flatD (τ n) = true) → DpAll K H' vs (GX.datas ρ τ ds) → Q vs H'
section
variable {X : Cx} {K : PySem.W.Frag}
theorem pgx_str {x : Str} {j : Nat} {pos : Pos} : PE X (.Constant (.str x) j pos) (tG K (.str x)) :=
  ⟨fun pins s σ H Q I ⟨h, c, ρ, S, hh, _, _, k⟩ => pe_str.run pins s σ H Q I (k _ H (fun _ => .none) hh.kr hh trivial (fun _ => rfl) (.str x))⟩
theorem pgx_int {i : Int} {j : Nat} {pos : Pos} : PE X (.Constant (.int i) j pos) (tG K (.int i)) :=
  ⟨fun pins s σ H Q I ⟨h, c, ρ, S, hh, _, _, k⟩ => pe_int.run pins s σ H Q I (k _ H (fun _ => .none) hh.kr hh trivial (fun _ => rfl) (.int i))⟩
theorem pgx_slot {i : Nat} {e : Expr} (h : PE X e (tVar i)) : PE X e (tG K (.slot i)) :=
  ⟨fun pins s σ H Q I ⟨h', c, ρ, S, hh, ⟨⟨v, ev, hv, _⟩, _⟩, _, k⟩ => h.run pins s σ H Q I ⟨v, ev, k v H (fun _ => .none) hh.kr hh trivial (fun _ => rfl) hv⟩⟩
theorem pgx_ex {e : Expr} {te : TE} (n : Nat) (he : PE X e te) : PE X e (tG K (.ex n te)) :=
  ⟨fun pins s σ H Q I ⟨h, c, ρ, S, hh, _, a, k⟩ => wpAny_mono (he.run pins s σ H _ I (a.1 H hh.kr hh)) (fun u s1 ⟨x, H2, I2, r, ⟨k2, hh2, d, sd, fd, hd⟩⟩ =>
    ⟨x, H2, I2, r, k x H2 (fun _ => d) k2 hh2 ⟨sd, trivial⟩ (fun _ => fd) hd⟩) (fun _ _ z => z)⟩
theorem pgx_nil : PA X [] (tGs K []) :=
  ⟨fun pos pins s σ H Q I ⟨h, c, ρ, S, hh, _, _, k⟩ => pa_nil.run pos pins s σ H Q I (k [] H (fun _ => .none) hh.kr hh trivial (fun _ => rfl) .nil)⟩
/-- the numbers of the first part are not those of the others -/
def apart (l m : List (Nat × TE)) : Bool := (nums l).all fun n => !(nums m).contains n
theorem pgx_cons {e : Expr} {es : List Expr} {d : GX} {ds : List GX} (hd : PE X e (tG K d)) (r : PA X es (tGs K ds)) (ap : apart d.exs (GX.exss ds) = true := by rfl)
    (hs : starEach (e :: es) X.env = (false, eval e X.env) :: starEach es X.env := by rfl) : PA X (e :: es) (tGs K (d :: ds)) :=
  ⟨fun pos pins s σ H Q I ⟨h, c, ρ, S, hh, hf, ha, k⟩ => (pa_cons hd r hs).run pos pins s σ H Q I
    ⟨h, c, ρ, S, hh, hf.app.1, ha.app.1, fun v H1 τ1 k1 hh1 a1 f1 hv => ⟨h, c, ρ, S, hh1, hf.app.2.kp k1, ha.app.2.kp k1, fun vs H2 τ2 k2 hh2 a2 f2 hvs => by
      have no : ∀ n ∈ nums d.exs, ¬ n ∈ nums (GX.exss ds) := fun n m z => by
        have := List.all_eq_true.mp ap n m
        rw [List.contains_iff_mem.mpr z] at this
        cases this
      let τ : Nat → PyData := fun n => if n ∈ nums d.exs then τ1 n else τ2 n
      have e1 : ∀ n ∈ nums d.exs, τ1 n = τ n := fun n m => (if_pos m).symm
      have e2 : ∀ n ∈ nums (GX.exss ds), τ2 n = τ n := fun n m => (if_neg (fun z => no n z m)).symm
      refine k (v :: vs) H2 τ (k1.trans k2) hh2 (alls_app (alls_eq e1 a1) (alls_eq e2 a2)) (fun n => ?_) ?_
      · show flatD (if n ∈ nums d.exs then τ1 n else τ2 n) = true
        split
        · exact f1 n
        · exact f2 n
      · show DpAll K H2 (v :: vs) (d.data ρ τ :: GX.datas ρ τ ds)
        rw [← data_eq d e1, ← datas_eq ds e2]
        exact .cons (dp_keep (fun _ _ q => k2.tup q) _ _ (flat_gdata d hf.app.1 f1) hv) hvs⟩⟩⟩
theorem gdatas_len {ρ τ : Nat → PyData} : ∀ ds : List GX, (GX.datas ρ τ ds).length = ds.length
  | [] => rfl
  | d :: ds => congrArg (· + 1) (gdatas_len ds)
theorem pgx_tup {es : List Expr} {ds : List GX} {k : Nat} {pos : Pos} (h : PA X es (tGs K ds)) (hl : ds.length ≤ 1000 := by exact Nat.le_of_ble_eq_true rfl) : PE X (.Tuple es k pos) (tG K (.tup ds)) :=
  ⟨fun pins s σ H Q I ⟨h', c, ρ, S, hh, hf, ha, k⟩ => (pe_tup h).run pins s σ H Q I ⟨h', c, ρ, S, hh, hf, ha, fun vs H1 τ k1 hh1 a1 f1 hvs => ⟨by
      have e := DpAll.len hvs
      rw [gdatas_len] at e
      rw [e]
      exact Nat.le_trans hl (by decide), fun p hp => k _ _ τ (k1.trans (hh1.kh (same_new hp))) (hh1.same (same_new hp)) a1 f1 (.tup (.inl (.inl upd_same)) (dps_same (same_new hp) _ _ hvs))⟩⟩⟩
end
end Cm

set_option linter.all false
/-! how deep the data of a tree is; where a name is used -/
namespace Cm
open PySem L2 PySem.Spec PyProof.Rows
def wt (b : Nat) : Hd → Nat
  | .bind _ _ => 3
  | .doo => 2
  | .call => 2
  | .op _ => 2
  | .plain w => if w = "wind" then 1 + b else 1
  | _ => 1
mutual
def Tr.dd (b : Nat) : Tr → Nat
  | .mk h ps => wt b h + Tr.dds b ps
def Tr.dds (b : Nat) : List Tr → Nat
  | [] => 0
  | t :: ts => max (t.dd b) (Tr.dds b ts)
end
theorem dds_le {b n : Nat} : ∀ {ps : List Tr}, Tr.dds b ps ≤ n ↔ ∀ t ∈ ps, t.dd b ≤ n
  | [] => by simp [Tr.dds]
  | t :: ts => by
    have := dds_le (b := b) (n := n) (ps := ts)
    show max (t.dd b) (Tr.dds b ts) ≤ n ↔ _
    rw [Nat.max_le, this]
    simp
theorem wt_pos (b : Nat) (h : Hd) : 1 ≤ wt b h := by
  cases h with
  | plain w =>
    show 1 ≤ (if w = "wind" then 1 + b else 1)
    split <;> omega
  | _ => exact Nat.le_of_ble_eq_true rfl
theorem dd_pos (b : Nat) (t : Tr) : 1 ≤ t.dd b := by
  cases t with
  | mk h ps =>
    have := wt_pos b h
    show 1 ≤ wt b h + Tr.dds b ps
    omega
theorem dep_dd (b : Nat) (t : Tr) : t.dep ≤ t.dd b := by
  refine tr_ind (P := fun t => t.dep ≤ t.dd b) (fun h ps ih => ?_) t
  have h1 := wt_pos b h
  have h2 : Tr.deps ps ≤ Tr.dds b ps := deps_le.mpr fun t m => Nat.le_trans (ih t m) (dds_le.mp (Nat.le_refl _) t m)
  show Tr.deps ps + 1 ≤ wt b h + Tr.dds b ps
  omega
theorem lay_encD {b m : Nat} {h : Hd} {ds : List PyData} (o : hok h ds.length) (f : ∀ d ∈ ds, Lay m d) (p : ds ≠ [] → 1 ≤ m) : Lay (wt b h + m) (encH h ds) := by
  have hw : ∀ w, (w ∈ litW ∨ w ∈ oneW ∨ w ∈ bindW ∨ w ∈ plainW) → ∀ n, Lay n (.str w) := fun w q n => .str (words_sok w (by
    simp only [List.mem_append]
    rcases q with q | q | q | q
    · exact .inl (.inl (.inl q))
    · exact .inl (.inl (.inr q))
    · exact .inl (.inr q)
    · exact .inr q)) _
  have c : ∀ {n : Nat} {d : PyData} {ds : List PyData}, Lay n d → (∀ e ∈ ds, Lay n e) → ∀ e ∈ d :: ds, Lay n e := fun a b e q => by
    rcases List.mem_cons.mp q with rfl | q
    · exact a
    · exact b e q
  have nil : ∀ {n : Nat}, ∀ e ∈ ([] : List PyData), Lay n e := fun e q => by cases q
  have S : ∀ (n : Nat) (w : Str), sok w → Lay n (.str w) := fun n w h => .str h _
  cases h with
  | num i => exact (Lay.tup (n := m) (c (S m "number" (by decide +kernel)) (c (.int i _) nil))).mono (by show m + 1 ≤ 1 + m; omega)
  | name x => exact (Lay.tup (n := m) (c (S m "name" (by decide +kernel)) (c (S m x o.2) nil))).mono (by show m + 1 ≤ 1 + m; omega)
  | lit w => exact (Lay.tup (n := m) (c (hw w (.inl o.2) m) nil)).mono (by show m + 1 ≤ 1 + m; omega)
  | one w x => exact (Lay.tup (n := m) (c (hw w (.inr (.inl o.2.1)) m) (c (S m x o.2.2) f))).mono (by show m + 1 ≤ 1 + m; omega)
  | fn xs =>
    have p1 := p (fun z => by rw [z] at o; exact absurd o.1 (by decide))
    obtain ⟨m', rfl⟩ : ∃ m', m = m' + 1 := ⟨m - 1, by omega⟩
    exact (Lay.tup (n := m' + 1) (c (S _ "fn" (by decide +kernel)) (c (lay_strs o.2.2 m') f))).mono (by show m' + 1 + 1 ≤ 1 + (m' + 1); omega)
  | bind w xs =>
    refine (Lay.tup (n := m + 2) (c (hw w (.inr (.inr (.inl o.2.1))) _) (c (Lay.tup (n := m + 1) fun d hd => ?_) fun d hd => (f d (List.mem_of_mem_drop hd)).mono (by omega)))).mono (by show m + 2 + 1 ≤ 3 + m; omega)
    obtain ⟨q, hq, rfl⟩ := List.mem_map.mp hd
    have hz := List.of_mem_zip (show (q.1, q.2) ∈ xs.zip ds from hq)
    refine Lay.tup (n := m) fun d hd => ?_
    simp only [List.mem_cons, List.not_mem_nil, or_false] at hd
    rcases hd with rfl | rfl
    · exact .str (o.2.2 _ hz.1) _
    · exact f _ hz.2
  | doo => exact (Lay.tup (n := m + 1) (c (S _ "do" (by decide +kernel)) (c (Lay.tup f) nil))).mono (by show m + 1 + 1 ≤ 2 + m; omega)
  | call =>
    refine (Lay.tup (n := m + 1) (c (S _ "call" (by decide +kernel)) fun d hd => ?_)).mono (by show m + 1 + 1 ≤ 2 + m; omega)
    rcases List.mem_append.mp hd with hd | hd
    · exact (f d (List.mem_of_mem_take hd)).mono (by omega)
    · cases List.mem_singleton.mp hd
      exact Lay.tup fun d q => f d (List.mem_of_mem_drop q)
  | op o' => exact (Lay.tup (n := m + 1) (c (S _ "op" (by decide +kernel)) (c (S _ o' o) (c (Lay.tup f) nil)))).mono (by show m + 1 + 1 ≤ 2 + m; omega)
  | plain w => exact (Lay.tup (n := m) (c (hw w (.inr (.inr (.inr o))) m) f)).mono (by have := wt_pos b (.plain w); omega)
theorem lay_dd (b : Nat) (t : Tr) : t.ok → Lay (t.dd b) t.enc := by
  refine tr_ind (P := fun t => t.ok → Lay (t.dd b) t.enc) (fun h ps ih o => ?_) t
  have o' : hok h ps.length ∧ ps.length ≤ 11 ∧ Tr.oks ps := o
  show Lay (wt b h + Tr.dds b ps) (encH h (Tr.encL ps))
  refine lay_encD (by rw [encL_len]; exact o'.1) (fun d hd => ?_) fun z => ?_
  · rw [encL_map] at hd
    obtain ⟨u, m, rfl⟩ := List.mem_map.mp hd
    exact (ih u m (oks_iff.mp o'.2.2 u m)).mono (dds_le.mp (Nat.le_refl _) u m)
  · cases ps with
    | nil => exact absurd rfl z
    | cons u r =>
      have := dd_pos b u
      show 1 ≤ max (u.dd b) (Tr.dds b r)
      omega
/-! ### where a name is used -/
def baseU (x : Str) : Hd → List (List Int × Str)
  | .name y => if y = x then [([], "read")] else []
  | .one w y => if w = "set" ∧ y = x then [([], "set")] else []
  | _ => []
def isNm (x : Str) : Hd → Bool
  | .name y => decide (y = x)
  | _ => false
/-- the called part of a call of one argument that is a name -/
def cal (h : Hd) (n i : Nat) (t : Tr) : Bool := isCall h && decide (n = 2) && decide (i = 0) && isName t.hd
def hw (c : Bool) (s : Str) : Str := if c = true then "called" else s
mutual
def Tr.uses (x : Str) : Tr → List (List Int × Str)
  | .mk h ps => baseU x h ++ Tr.usesL x h ps.length 0 ps
def Tr.usesL (x : Str) (h : Hd) (n : Nat) : Nat → List Tr → List (List Int × Str)
  | _, [] => []
  | i, t :: ts => (if x ∈ under h n i then [] else (t.uses x).map fun p => (((i : Nat) : Int) :: p.1, hw (cal h n i t) p.2)) ++ Tr.usesL x h n (i + 1) ts
end
def rawL (x : Str) (h : Hd) (n : Nat) : Nat → List Tr → List (List Int × Str)
  | _, [] => []
  | i, t :: ts => (if x ∈ under h n i then [] else (t.uses x).map fun p => (((i : Nat) : Int) :: p.1, p.2)) ++ rawL x h n (i + 1) ts
theorem usesL_snoc (x : Str) (h : Hd) (n : Nat) (t : Tr) : ∀ (ts : List Tr) (i : Nat), Tr.usesL x h n i (ts ++ [t]) = Tr.usesL x h n i ts ++ (if x ∈ under h n (i + ts.length) then [] else (t.uses x).map fun p => (((i + ts.length : Nat) : Int) :: p.1, hw (cal h n (i + ts.length) t) p.2))
  | [], i => by
    show (if x ∈ under h n i then [] else _) ++ [] = [] ++ _
    simp
  | a :: ts, i => by
    show (if x ∈ under h n i then [] else _) ++ Tr.usesL x h n (i + 1) (ts ++ [t]) = ((if x ∈ under h n i then [] else _) ++ Tr.usesL x h n (i + 1) ts) ++ _
    rw [usesL_snoc x h n t ts (i + 1), List.append_assoc, List.length_cons, show i + 1 + ts.length = i + (ts.length + 1) by omega]
theorem rawL_snoc (x : Str) (h : Hd) (n : Nat) (t : Tr) : ∀ (ts : List Tr) (i : Nat), rawL x h n i (ts ++ [t]) = rawL x h n i ts ++ (if x ∈ under h n (i + ts.length) then [] else (t.uses x).map fun p => (((i + ts.length : Nat) : Int) :: p.1, p.2))
  | [], i => by
    show (if x ∈ under h n i then [] else _) ++ [] = [] ++ _
    simp
  | a :: ts, i => by
    show (if x ∈ under h n i then [] else _) ++ rawL x h n (i + 1) (ts ++ [t]) = ((if x ∈ under h n i then [] else _) ++ rawL x h n (i + 1) ts) ++ _
    rw [rawL_snoc x h n t ts (i + 1), List.append_assoc, List.length_cons, show i + 1 + ts.length = i + (ts.length + 1) by omega]
theorem raw_eq {x : Str} {h : Hd} {n : Nat} : ∀ {ts : List Tr} {i : Nat}, (∀ j t, ts[j]? = some t → cal h n (i + j) t = true → t.uses x = []) → rawL x h n i ts = Tr.usesL x h n i ts
  | [], _, _ => rfl
  | t :: ts, i, q => by
    show (if x ∈ under h n i then [] else _) ++ rawL x h n (i + 1) ts = (if x ∈ under h n i then [] else _) ++ Tr.usesL x h n (i + 1) ts
    have e1 := raw_eq (x := x) (h := h) (n := n) (ts := ts) (i := i + 1) fun j t' e c => q (j + 1) t' (by simpa using e) (by rw [show i + (j + 1) = i + 1 + j by omega]; exact c)
    rw [e1]
    congr 1
    by_cases m : x ∈ under h n i
    · rw [if_pos m, if_pos m]
    · rw [if_neg m, if_neg m]
      by_cases c : cal h n i t = true
      · rw [q 0 t rfl c]; rfl
      · refine List.map_congr_left fun p _ => ?_
        show _ = (((i : Nat) : Int) :: p.1, (if cal h n i t = true then "called" else p.2 : Str))
        rw [if_neg c]
theorem baseU_len (x : Str) (h : Hd) : (baseU x h).length ≤ 1 := by
  cases h with
  | name y => show (if y = x then [([], "read")] else [] : List (List Int × Str)).length ≤ 1; split <;> simp
  | one w y => show (if w = "set" ∧ y = x then [([], "set")] else [] : List (List Int × Str)).length ≤ 1; split <;> simp
  | _ => exact Nat.zero_le _
mutual
theorem uses_len (x : Str) : ∀ t : Tr, (t.uses x).length ≤ t.size
  | .mk h ps => by
    have h1 := baseU_len x h
    have h2 := usesL_len x h ps.length 0 ps
    show (baseU x h ++ Tr.usesL x h ps.length 0 ps).length ≤ Tr.sizes ps + 1
    rw [List.length_append]
    omega
theorem usesL_len (x : Str) (h : Hd) (n : Nat) : ∀ (i : Nat) (ts : List Tr), (Tr.usesL x h n i ts).length ≤ Tr.sizes ts
  | _, [] => Nat.le_refl _
  | i, t :: ts => by
    have h1 := uses_len x t
    have h2 := usesL_len x h n (i + 1) ts
    show ((if x ∈ under h n i then [] else _) ++ Tr.usesL x h n (i + 1) ts).length ≤ t.size + Tr.sizes ts
    rw [List.length_append]
    split
    · simp only [List.length_nil]; omega
    · rw [List.length_map]; omega
end
theorem rawL_len (x : Str) (h : Hd) (n : Nat) : ∀ (i : Nat) (ts : List Tr), (rawL x h n i ts).length ≤ Tr.sizes ts
  | _, [] => Nat.le_refl _
  | i, t :: ts => by
    have h1 := uses_len x t
    have h2 := rawL_len x h n (i + 1) ts
    show ((if x ∈ under h n i then [] else _) ++ rawL x h n (i + 1) ts).length ≤ t.size + Tr.sizes ts
    rw [List.length_append]
    split
    · simp only [List.length_nil]; omega
    · rw [List.length_map]; omega
def useD (p : List Int × Str) : PyData := .tuple [pathI p.1, .str p.2]
theorem flat_useD (p : List Int × Str) : flatD (useD p) = true := by
  have := flatDs_ints p.1
  simp [useD, pathI, flatD, flatDs, this]
theorem flat_usesD (l : List (List Int × Str)) : flatDs (l.map useD) = true := flatDs_of _ fun d hd => by
  obtain ⟨p, _, rfl⟩ := List.mem_map.mp hd
  exact flat_useD p
mutual
theorem use_ok (x : Str) : ∀ t : Tr, ∀ p ∈ t.uses x, p.1.length ≤ t.size ∧ sok p.2
  | .mk h ps, p, m => by
    have m' : p ∈ baseU x h ++ Tr.usesL x h ps.length 0 ps := m
    rcases List.mem_append.mp m' with m' | m'
    · cases h with
      | name y =>
        have m2 : p ∈ (if y = x then [([], "read")] else [] : List (List Int × Str)) := m'
        split at m2
        · rw [List.mem_singleton.mp m2]; exact ⟨Nat.zero_le _, by decide +kernel⟩
        · cases m2
      | one w y =>
        have m2 : p ∈ (if w = "set" ∧ y = x then [([], "set")] else [] : List (List Int × Str)) := m'
        split at m2
        · rw [List.mem_singleton.mp m2]; exact ⟨Nat.zero_le _, by decide +kernel⟩
        · cases m2
      | _ => cases m'
    · have := useL_ok x h ps.length 0 ps p m'
      exact ⟨by show p.1.length ≤ Tr.sizes ps + 1; omega, this.2⟩
theorem useL_ok (x : Str) (h : Hd) (n : Nat) : ∀ (i : Nat) (ts : List Tr), ∀ p ∈ Tr.usesL x h n i ts, p.1.length ≤ Tr.sizes ts + 1 ∧ sok p.2
  | _, [], _, m => by cases m
  | i, t :: ts, p, m => by
    have m' : p ∈ (if x ∈ under h n i then [] else (t.uses x).map fun p => (((i : Nat) : Int) :: p.1, hw (cal h n i t) p.2)) ++ Tr.usesL x h n (i + 1) ts := m
    rcases List.mem_append.mp m' with m' | m'
    · split at m'
      · cases m'
      · obtain ⟨q, hq, rfl⟩ := List.mem_map.mp m'
        have := use_ok x t q hq
        refine ⟨?_, ?_⟩
        · show q.1.length + 1 ≤ t.size + Tr.sizes ts + 1
          omega
        · show sok (if cal h n i t = true then "called" else q.2 : Str)
          split
          · decide +kernel
          · exact this.2
    · have := useL_ok x h n (i + 1) ts p m'
      exact ⟨by show p.1.length ≤ t.size + Tr.sizes ts + 1; omega, this.2⟩
end
/-- the first use of a call of a name -/
theorem raw_call {x : Str} {y : Str} {b : Tr} (e : y = x) : ∃ r : List (List Int × Str), rawL x .call 2 0 [.mk (.name y) [], b] = ([0], ("read" : Str)) :: r ∧ Tr.usesL x .call 2 0 [.mk (.name y) [], b] = ([0], ("called" : Str)) :: r := by
  refine ⟨(b.uses x).map fun p => (((1 : Nat) : Int) :: p.1, p.2), ?_, ?_⟩
  · show (if x ∈ under .call 2 0 then [] else ((Tr.mk (.name y) []).uses x).map _) ++ ((if x ∈ under .call 2 1 then [] else _) ++ []) = _
    have e1 : (Tr.mk (.name y) []).uses x = [([], ("read" : Str))] := by
      show (if y = x then [([], "read")] else [] : List (List Int × Str)) ++ [] = _
      rw [if_pos e]; rfl
    rw [if_neg (by intro z; cases z), if_neg (by intro z; cases z), e1, List.append_nil]
    rfl
  · show (if x ∈ under .call 2 0 then [] else ((Tr.mk (.name y) []).uses x).map _) ++ ((if x ∈ under .call 2 1 then [] else _) ++ []) = _
    have e1 : (Tr.mk (.name y) []).uses x = [([], ("read" : Str))] := by
      show (if y = x then [([], "read")] else [] : List (List Int × Str)) ++ [] = _
      rw [if_pos e]; rfl
    rw [if_neg (by intro z; cases z), if_neg (by intro z; cases z), e1, List.append_nil]
    rfl
theorem enc_hd (h : Hd) (ds : List PyData) : ∃ r, encH h ds = .tuple (.str (wd h) :: r) ∧ (∀ y, h = .name y → r = [.str y]) := by
  cases h with
  | name y => exact ⟨_, rfl, fun z e => by cases e; rfl⟩
  | _ => exact ⟨_, rfl, fun z e => by cases e⟩
theorem eq_nameT {h : Hd} {n : Nat} (o : hok h n) (ds : List PyData) (x : Str) : PyData.eqv (encH h ds) (.tuple [.str "name", .str x]) = isNm x h := by
  obtain ⟨r, e, er⟩ := enc_hd h ds
  rw [e]
  have e2 := eq_name o
  rw [decS] at e2
  by_cases q : isName h = true
  · cases h with
    | name y =>
      rw [er y rfl]
      show PyData.eqvAll [.str "name", .str y] [.str "name", .str x] = decide (y = x)
      simp [PyData.eqvAll, PyData.eqv]
      by_cases z : y = x <;> simp [z]
    | _ => cases q
  · have q' : isName h = false := by cases z : isName h with | true => exact absurd z q | false => rfl
    rw [q'] at e2
    have q2 : ¬ wd h = "name" := of_decide_eq_false e2
    have q3 : isNm x h = false := by
      cases h with
      | name y => exact absurd rfl q
      | _ => rfl
    rw [q3]
    show PyData.eqvAll (.str (wd h) :: r) [.str "name", .str x] = false
    simp [PyData.eqvAll, PyData.eqv, q2]
/-- a name that is no longer free is not used -/
theorem cal_no {x : Str} {t : Tr} (o : t.ok) (n : isName t.hd = true) (e : isNm x t.hd = false) : t.uses x = [] := by
  cases t with
  | mk h ps =>
    have o' : hok h ps.length ∧ ps.length ≤ 11 ∧ Tr.oks ps := o
    cases h with
    | name y =>
      have e0 : ps = [] := List.length_eq_zero_iff.mp o'.1.1
      subst e0
      have e' : ¬ y = x := of_decide_eq_false e
      show (if y = x then [([], "read")] else [] : List (List Int × Str)) ++ [] = []
      rw [if_neg e']; rfl
    | _ => cases n

/-! ### small facts on parts -/
theorem okP {h : Hd} {ps : List Tr} (o : (Tr.mk h ps).ok) : hok h ps.length ∧ ps.length ≤ 11 ∧ ∀ t ∈ ps, t.ok := by
  have o' : hok h ps.length ∧ ps.length ≤ 11 ∧ Tr.oks ps := o
  exact ⟨o'.1, o'.2.1, fun t m => oks_iff.mp o'.2.2 t m⟩
theorem encLat {ps : List Tr} {i : Nat} {d : PyData} (h : (Tr.encL ps)[i]? = some d) : ∃ c, ps[i]? = some c ∧ d = c.enc := by
  rw [encL_map] at h
  obtain ⟨c, e1, e2⟩ := map_at h
  exact ⟨c, e1, e2⟩
theorem takeNext {α : Type} {xs : List α} {i : Nat} {c : α} (h : xs[i]? = some c) : xs.take (i + 1) = xs.take i ++ [c] ∧ (xs.take i).length = i := by
  refine ⟨by rw [List.take_add_one, h]; rfl, ?_⟩
  have := (List.getElem?_eq_some_iff.mp h).1
  rw [List.length_take]
  omega
theorem encsInv {K : PySem.W.Frag} {H : Hp} {v : V} {xs : List Str} (h : Dp K H v (encs xs)) : ∃ q, v = .ref q ∧ SqT K H q (xs.map V.str) := by
  obtain ⟨q, vs, rfl, hq, hv⟩ := dp_tup h
  rw [dpAll_strs_inv hv] at hq
  exact ⟨q, rfl, hq⟩
theorem sizeMem {t : Tr} : ∀ {ps : List Tr}, t ∈ ps → t.size ≤ Tr.sizes ps
  | a :: ps, h => by
    show t.size ≤ a.size + Tr.sizes ps
    rcases List.mem_cons.mp h with rfl | h
    · omega
    · have := sizeMem h
      omega
theorem sizesTake : ∀ (ps : List Tr) (i : Nat), Tr.sizes (ps.take i) ≤ Tr.sizes ps
  | [], i => by rw [List.take_nil]; exact Nat.le_refl _
  | a :: ps, 0 => Nat.zero_le _
  | a :: ps, i + 1 => by
    have := sizesTake ps i
    show a.size + Tr.sizes (ps.take i) ≤ a.size + Tr.sizes ps
    omega
theorem useD_inv {K : PySem.W.Frag} {H : Hp} {v : V} {p : List Int × Str} (h : Dp K H v (useD p)) : ∃ a b, v = .ref a ∧ SqT K H a [.ref b, .str p.2] ∧ SqT K H b (p.1.map V.int) := by
  obtain ⟨a, its, rfl, hs, hi⟩ := dp_tup h
  cases hi with
  | cons h1 h2 =>
    cases h2 with
    | cons h3 h4 =>
      cases h4
      obtain ⟨b, rfl, hb⟩ := pathI_inv h1
      rw [dp_str h3] at hs
      exact ⟨a, b, rfl, hs, hb⟩
theorem dp_useD {K : PySem.W.Frag} {H : Hp} {a b : Addr} {p : List Int × Str} (h : SqT K H a [.ref b, .str p.2]) (hb : SqT K H b (p.1.map V.int)) : Dp K H (.ref a) (useD p) :=
  .tup h (.cons (dp_pathI hb) (.cons (.str _) .nil))
theorem name_only {x : Str} {h : Hd} {ps : List Tr} (o : hok h ps.length) (e : isNm x h = true) : h = .name x ∧ ps = [] := by
  cases h with
  | name y =>
    rw [of_decide_eq_true (show decide (y = x) = true from e)]
    exact ⟨rfl, List.length_eq_zero_iff.mp o.1⟩
  | _ => cases e
end Cm

namespace K06
open PySem L2 Cm
/-- a road's data -/
theorem rd_view (r : Rd) : (∃ x fs post, r.enc = .tuple (.str x :: intsT fs :: post) ∧ r.row = fs ∧ post.length ≤ 1) ∨ ∃ x, r.enc = .tuple [.str x] ∧ r.row = [] := by
  cases r with
  | to fs k => exact .inl ⟨_, fs, [.int k], rfl, rfl, Nat.le_refl _⟩
  | on fs => exact .inl ⟨_, fs, [], rfl, rfl, Nat.zero_le _⟩
  | off => exact .inr ⟨_, rfl, rfl⟩
  | out => exact .inr ⟨_, rfl, rfl⟩
theorem row_give (r : Rd) (a : W) : (Tn.give r a).row.getD [] = r.row := by cases r <;> rfl
theorem row_call (r : Rd) (a : W) (vs : List W) : (Tn.call r a vs).row.getD [] = r.row := by cases r <;> rfl
inductive TV : Tn → Prop
  | row {t : Tn} {x : Str} {fs : List Int} {post : List PyData} (e : t.enc = .tuple (.str x :: intsT fs :: post)) (h : x ∈ rowW) (n : t.nm = fs) : TV t
  | pass (b : Int) : TV (.pass b)
  | pair {t : Tn} {x : Str} {a b : W} (e : t.enc = .tuple [.str x, a.enc, b.enc]) (h : x ∈ (["pair", "wind"] : List Str)) (h1 : ¬ x ∈ rowW) (h2 : ¬ x = "pass") (n : t.nm = [] ++ [a, b].flatMap W.refs) : TV t
  | two {t : Tn} {x : Str} {m : PyData} {vs : List W} (e : t.enc = .tuple [.str x, m, wsT vs]) (h : x ∈ (["fun", "wait"] : List Str)) (h1 : ¬ x ∈ rowW) (h2 : ¬ x = "pass") (h3 : ¬ x ∈ (["pair", "wind"] : List Str)) (hw : t.ws = vs) (n : t.nm = [] ++ vs.flatMap W.refs) : TV t
  | way {t : Tn} {r : Rd} {a : W} {vs : List W} {y : Str} {post : List PyData} (e : t.enc = .tuple [.str "way", r.enc, .tuple (.str y :: a.enc :: post)]) (hy : (y = "give" ∧ post = [] ∧ vs = []) ∨ (y = "call" ∧ post = [wsT vs])) (hr : t.row.getD [] = r.row) (hw : t.ws = a :: vs) (n : t.nm = r.row ++ (a :: vs).flatMap W.refs) : TV t
  | mark : TV .mark
theorem tv (t : Tn) : TV t := by
  cases t with
  | pair a b => exact .pair (x := "pair") rfl (by decide +kernel) (by decide +kernel) (by decide +kernel) rfl
  | wind a b => exact .pair (x := "wind") rfl (by decide +kernel) (by decide +kernel) (by decide +kernel) rfl
  | fn n vs => exact .two (x := "fun") rfl (by decide +kernel) (by decide +kernel) (by decide +kernel) (by decide +kernel) rfl rfl
  | wait n vs => exact .two (x := "wait") rfl (by decide +kernel) (by decide +kernel) (by decide +kernel) (by decide +kernel) rfl rfl
  | pass b => exact .pass b
  | mark => exact .mark
  | keep fs => exact .row (x := "keep") rfl (by decide +kernel) (List.append_nil fs)
  | piece fs => exact .row (x := "piece") rfl (by decide +kernel) (List.append_nil fs)
  | once fs u => exact .row (x := "once") rfl (by decide +kernel) (List.append_nil fs)
  | give r w => exact .way (r := r) (a := w) (vs := []) rfl (.inl ⟨rfl, rfl, rfl⟩) (row_give r w) rfl (by rw [← row_give r w]; rfl)
  | call r w vs => exact .way (r := r) (a := w) (vs := vs) rfl (.inr ⟨rfl, rfl⟩) (row_call r w vs) rfl (by rw [← row_call r w vs]; rfl)
section
variable {P : Program} {w : World} {K : PySem.W.Frag} {mg : Str → Option Value} {base : Heap}
abbrev s_l_named : Stmt := top 26
abbrev N_l_named : List Str := ["_law_thing_here", "_law_word", "_law_values_here", "_law_births", "_law_value"]
theorem sc_l_named : FnScope N_l_named ["_law_thing_here"] (defScope s_l_named) := ⟨rfl, rfl, rfl, by decide +kernel, rfl, by decide +kernel, by decide +kernel⟩
theorem ok_l_named (T : Txt mg) (c_l_refs : Cl P w K mg base 1 "_law_refs" (spRe K)) (D : At K mg "_law_named" s_l_named ["_law_thing_here"]) : Cl P w K mg base 2 "_law_named" (spBo K) := by
  refine cl_of (k := 1) D sc_l_named (fun vs H Q E h => ?_) fun f cdv A outer s H vs Q E hr h => ?_
  · obtain ⟨v, t, rfl, _⟩ := h
    rfl
  · obtain ⟨v, t, rfl, hd, hz, k⟩ := h
    refine ⟨_, (pss_cons (ps_set (i := 1) sc_l_named.nd rfl (Or.inl rfl) (pe_ix ix_tup (pv 0) pe_int (fun _ _ => rfl)))
      (pss_cons (ps_if (pt_inW (pv 1) (.cons (.cons (.cons .nil))) (show 3 ≤ sizeLine by decide) (by rfl))
        (pss_one (ps_ret (pe_callTy call_list_of (by rfl) T.list (by decide +kernel) (pa_cons (pe_ix ix_tup (pv 0) pe_int (fun _ _ => rfl)) pa_nil))))
        pss_nil)
      (pss_cons (ps_if (pt_cmpR op_eq (pv 1) pe_str (nomark _))
        (pss_one (ps_ret (pe_lst (pa_cons (pe_ix ix_tup (pv 0) pe_int (fun _ _ => rfl)) pa_nil))))
        pss_nil)
      (pss_cons (ps_set (i := 2) sc_l_named.nd rfl (Or.inl rfl) (pe_lst pa_nil))
      (pss_cons (ps_set (i := 3) sc_l_named.nd rfl (Or.inl rfl) (pe_lst pa_nil))
      (pss_mid (ps_if (pt_inW (pv 1) (.cons (.cons .nil)) (show 2 ≤ sizeLine by decide) (by rfl))
        (pss_one (ps_set (i := 2) sc_l_named.nd rfl (Or.inl rfl) (pe_lst (pa_cons (pe_ix ix_tup (pv 0) pe_int (fun _ _ => rfl)) (pa_cons (pe_ix ix_tup (pv 0) pe_int (fun _ _ => rfl)) pa_nil)))))
        (pss_one (ps_if (pt_inW (pv 1) (.cons (.cons .nil)) (show 2 ≤ sizeLine by decide) (by rfl))
          (pss_one (ps_set (i := 2) sc_l_named.nd rfl (Or.inl rfl) (pe_callTy call_list_of (by rfl) T.list (by decide +kernel) (pa_cons (pe_ix ix_tup (pv 0) pe_int (fun _ _ => rfl)) pa_nil))))
          (pss_one (ps_if (pt_cmpR op_eq (pv 1) pe_str (nomark _))
            (pss_mid (ps_if (pt_cmpR op_gt (pe_callB call_len_seq (by rfl) T.len (by decide +kernel) (pa_cons (pe_ix ix_tup (pv 0) pe_int (fun _ _ => rfl)) pa_nil)) pe_int (nomark _))
              (pss_one (ps_set (i := 3) sc_l_named.nd rfl (Or.inl rfl) (pe_callTy call_list_of (by rfl) T.list (by decide +kernel) (pa_cons (pe_ix ix_tup (pe_ix ix_tup (pv 0) pe_int (fun _ _ => rfl)) pe_int (fun _ _ => rfl)) pa_nil))))
              pss_nil)
            (pss_cons (ps_set (i := 2) sc_l_named.nd rfl (Or.inl rfl) (pe_lst (pa_cons (pe_ix ix_tup (pe_ix ix_tup (pv 0) pe_int (fun _ _ => rfl)) pe_int (fun _ _ => rfl)) pa_nil)))
            (pss_one (ps_if (pt_cmpR op_eq (pe_ix ix_tup (pe_ix ix_tup (pv 0) pe_int (fun _ _ => rfl)) pe_int (fun _ _ => rfl)) pe_str (nomark _))
              (pss_one (ps_set (i := 2) sc_l_named.nd rfl (Or.inl rfl) (pe_op op_cat (pv 2) (pe_callTy call_list_of (by rfl) T.list (by decide +kernel) (pa_cons (pe_ix ix_tup (pe_ix ix_tup (pv 0) pe_int (fun _ _ => rfl)) pe_int (fun _ _ => rfl)) pa_nil)))))
              pss_nil))))
            pss_nil)))))
      (pss_mid (ps_for PassesOwn.never rfl (pi_list (pv 2)) (pg_name (i := 4) sc_l_named.nd rfl (Or.inl rfl))
        (pss_one (ps_set (i := 3) sc_l_named.nd rfl (Or.inl rfl) (pe_op op_cat (pv 3) (pe_c c_l_refs hr (by decide) (by rfl) (pa_cons (pv 4) pa_nil))))))
      (pss_one (ps_ret (pv 3)))))))))), ?_⟩
    -- what stands before the loop
    have tail : ∀ (row : List Int) (ws : List W), t.nm = row ++ ws.flatMap W.refs → ws.length ≤ 40 → row.length ≤ 41 → ∀ (x1 : V) (vl bl : Addr) (us : List V) (H1 : Hp), Same H H1 → H1 vl = some (.lst us) → DpAll K H1 us (ws.map W.enc) → H bl = none → H1 bl = some (.lst (row.map V.int)) →
        tMid (tFor (iList K (tVar 2)) (gName 4) (tAsg (tOp rCat (tVar 3) (tCall (spRe K) [] E0 (tCons (tVar 4) tNil))) (gName 3))) (tRet (tVar 3)) { nx := fun _ H' => Q .non H', rt := Q } [some v, some x1, some (.ref vl), some (.ref bl), none] H1 := by
      intro row ws en wl rl x1 vl bl us H1 s1 hvl hus nbl hbl
      have hul := DpAll.len hus
      rw [List.length_map] at hul
      refine ⟨fun σ' H' => ∃ (v4 : Option V) (bl' : Addr), σ' = [some v, some x1, some (.ref vl), some (.ref bl'), v4] ∧ Same H H' ∧ H bl' = none ∧ H' bl' = some (.lst (t.nm.map V.int)), ?_, ?_⟩
      · refine ⟨_, rfl, vl, rfl, ⟨_, .inl (.inl hvl)⟩, ?_⟩
        refine for_it (walk_list (K := K) (a := vl) (xs := us)) (fun i σ' H' => ∃ (v4 : Option V) (bl' : Addr), σ' = [some v, some x1, some (.ref vl), some (.ref bl'), v4] ∧ Same H1 H' ∧ H bl' = none ∧ H' bl' = some (.lst ((row ++ (ws.take i).flatMap W.refs).map V.int)))
          ⟨none, bl, rfl, Same.refl _, nbl, by rw [List.take_zero, List.flatMap_nil, List.append_nil]; exact hbl⟩ (fun _ _ _ _ z => by obtain ⟨_, _, _, z, _⟩ := z; exact .inl (.inl (z _ _ hvl))) ?_ ?_
        · rintro i x σ H2' H2 hi ⟨v4, bl', rfl, s2, nb, hb⟩ ⟨rfl, ex⟩
          obtain ⟨d, g1, g2⟩ := DpAll.atV hus ex
          obtain ⟨y, ey, rfl⟩ := map_at g1
          refine ⟨_, rfl, _, rfl, x, y, rfl, dp_same s2 _ _ g2, fun r H3 s3 nr hr => ?_⟩
          have hy1 : y.refs.length ≤ 1 := by cases y <;> first | exact Nat.le_refl 1 | exact Nat.zero_le 1
          have ht1 := refs_len (ws.take i)
          have ht2 : (ws.take i).length ≤ 40 := by rw [List.length_take]; omega
          refine ⟨bl', r, _, _, rfl, rfl, s3 _ _ hb, hr, Nat.le_trans (show ((row ++ (ws.take i).flatMap W.refs).map V.int).length + (y.refs.map V.int).length ≤ 100 by
            rw [List.length_map, List.length_map, List.length_append]; omega) (by decide), fun q hq => ?_⟩
          have s4 := same_new (o := .lst ((row ++ (ws.take i).flatMap W.refs).map V.int ++ y.refs.map V.int)) hq
          refine ⟨_, q, rfl, (s2.trans s3).trans s4, free_of ((s1.trans s2).trans s3) hq, ?_⟩
          rw [upd_same, (takeNext ey).1, List.flatMap_append, ← List.append_assoc, List.map_append]
          simp
        · rintro σ H2 ⟨v4, bl', rfl, s2, nb, hb⟩
          refine ⟨v4, bl', rfl, s1.trans s2, nb, ?_⟩
          rw [hul, List.take_length] at hb
          rw [en]
          exact hb
      · rintro σ2 H2 ⟨v4, bl', rfl, s2, nb, hb⟩
        exact ⟨_, rfl, k bl' H2 s2 nb hb⟩
    have tT := tv t
    have hsz := hz
    cases tT with
    | @row _ x fs post e h n =>
      rw [e] at hd
      obtain ⟨a, its, rfl, hs, hx⟩ := dp_hd hd
      refine ⟨_, rfl, a, _, _, _, rfl, rfl, hs, atI_nat (j := 0) rfl, ?_⟩
      refine ⟨_, rfl, rfl, fun H1 s1 => iteIn (ws := rowW) h ?_⟩
      cases hx with
      | cons h1 h2 =>
        obtain ⟨c, rfl, hc⟩ := dp_ints_inv h1
        refine ⟨_, rfl, a, _, _, _, rfl, rfl, sqt_same s1 hs, atI_nat (j := 1) rfl, c, _, rfl, .inr (sqt_same s1 hc), fun l hl => ?_⟩
        exact k l _ (s1.trans (same_new hl)) (free_of s1 hl) (by rw [n]; exact upd_same)
    | pass b =>
      obtain ⟨a, its, rfl, hs, hx⟩ := dp_hd hd
      obtain ⟨rfl⟩ : its = [.int b] := by
        cases hx with
        | cons h1 h2 => cases h1; cases h2; rfl
      refine ⟨_, rfl, a, _, _, _, rfl, rfl, hs, atI_nat (j := 0) rfl, ?_⟩
      refine ⟨_, rfl, rfl, fun H1 s1 => iteNi (ws := rowW) (by decide +kernel) ?_⟩
      refine ⟨_, rfl, rfl, _, rfl, iteEq rfl ?_⟩
      refine ⟨_, rfl, a, _, _, _, rfl, rfl, sqt_same s1 hs, atI_nat (j := 1) rfl, by show 1 ≤ sizeLine; decide, fun p hp => ?_⟩
      exact k p _ (s1.trans (same_new hp)) (free_of s1 hp) upd_same
    | @pair _ x a1 b1 e h h1 h2 n =>
      rw [e] at hd
      obtain ⟨a, its, rfl, hs, hx⟩ := dp_hd hd
      obtain ⟨v1, v2, rfl, g1, g2⟩ : ∃ v1 v2, its = [v1, v2] ∧ Dp K H v1 a1.enc ∧ Dp K H v2 b1.enc := by
        cases hx with
        | cons p1 p2 => cases p2 with
          | cons q1 q2 => cases q2; exact ⟨_, _, rfl, p1, q1⟩
      refine ⟨_, rfl, a, _, _, _, rfl, rfl, hs, atI_nat (j := 0) rfl, ?_⟩
      refine ⟨_, rfl, rfl, fun H1 s1 => iteNi (ws := rowW) h1 ?_⟩
      refine ⟨_, rfl, rfl, _, rfl, iteNe h2 ?_⟩
      refine ⟨by show 0 ≤ sizeLine; decide, fun l1 hl1 => ⟨by show 0 ≤ sizeLine; decide, fun l2 hl2 => ?_⟩⟩
      have s3 := (s1.trans (same_new (o := .lst []) hl1)).trans (same_new (o := .lst []) hl2)
      have n2 : H l2 = none := free_of (s1.trans (same_new (o := .lst []) hl1)) hl2
      have e2 : (upd (upd H1 l1 (.lst [])) l2 (.lst [])) l2 = some (.lst []) := upd_same
      generalize upd (upd H1 l1 (.lst [])) l2 (.lst []) = H3 at *
      refine ⟨fun σ' H' => ∃ (vl : Addr) (us : List V), σ' = [some (.ref a), some (.str x), some (.ref vl), some (.ref l2), none] ∧ Same H3 H' ∧ H' vl = some (.lst us) ∧ DpAll K H' us ([a1, b1].map W.enc), ?_, ?_⟩
      · refine ⟨_, rfl, rfl, fun H4 s4 => iteIn (ws := ["pair", "wind"]) h ?_⟩
        have s34 := s3.trans s4
        refine ⟨_, rfl, a, _, _, _, rfl, rfl, sqt_same s34 hs, atI_nat (j := 1) rfl, _, rfl, a, _, _, _, rfl, rfl, sqt_same s34 hs, atI_nat (j := 2) rfl, by show 2 ≤ sizeLine; decide, fun p hp => ?_⟩
        have s5 := same_new (o := .lst [v1, v2]) hp
        exact ⟨p, _, rfl, s4.trans s5, upd_same, .cons (dp_same (s34.trans s5) _ _ g1) (.cons (dp_same (s34.trans s5) _ _ g2) .nil)⟩
      rintro σ4 H4 ⟨vl, us, rfl, s4, hvl, hus⟩
      exact tail [] [a1, b1] n (show 2 ≤ 40 by decide) (show 0 ≤ 41 by decide) _ vl l2 us H4 (s3.trans s4) hvl hus n2 (s4 _ _ e2)
    | @two _ x m vs e h h1 h2 h3 hw n =>
      rw [e] at hd
      have hv40 : vs.length ≤ 40 := by
        rw [← hw]
        have := hz.2
        omega
      obtain ⟨a, its, rfl, hs, hx⟩ := dp_hd hd
      obtain ⟨v1, v2, rfl, g1, g2⟩ : ∃ v1 v2, its = [v1, v2] ∧ Dp K H v1 m ∧ Dp K H v2 (wsT vs) := by
        cases hx with
        | cons p1 p2 => cases p2 with
          | cons q1 q2 => cases q2; exact ⟨_, _, rfl, p1, q1⟩
      obtain ⟨c, us, rfl, hc, hu⟩ := dp_tup g2
      refine ⟨_, rfl, a, _, _, _, rfl, rfl, hs, atI_nat (j := 0) rfl, ?_⟩
      refine ⟨_, rfl, rfl, fun H1 s1 => iteNi (ws := rowW) h1 ?_⟩
      refine ⟨_, rfl, rfl, _, rfl, iteNe h2 ?_⟩
      refine ⟨by show 0 ≤ sizeLine; decide, fun l1 hl1 => ⟨by show 0 ≤ sizeLine; decide, fun l2 hl2 => ?_⟩⟩
      have s3 := (s1.trans (same_new (o := .lst []) hl1)).trans (same_new (o := .lst []) hl2)
      have n2 : H l2 = none := free_of (s1.trans (same_new (o := .lst []) hl1)) hl2
      have e2 : (upd (upd H1 l1 (.lst [])) l2 (.lst [])) l2 = some (.lst []) := upd_same
      generalize upd (upd H1 l1 (.lst [])) l2 (.lst []) = H3 at *
      refine ⟨fun σ' H' => ∃ (vl : Addr) (us : List V), σ' = [some (.ref a), some (.str x), some (.ref vl), some (.ref l2), none] ∧ Same H3 H' ∧ H' vl = some (.lst us) ∧ DpAll K H' us (vs.map W.enc), ?_, ?_⟩
      · refine ⟨_, rfl, rfl, fun H4 s4 => iteNi (ws := ["pair", "wind"]) h3 ?_⟩
        refine ⟨_, rfl, rfl, fun H5 s5 => iteIn (ws := ["fun", "wait"]) h ?_⟩
        have s35 := (s3.trans s4).trans s5
        refine ⟨_, rfl, a, _, _, _, rfl, rfl, sqt_same s35 hs, atI_nat (j := 2) rfl, c, us, rfl, .inr (sqt_same s35 hc), fun p hp => ?_⟩
        have s6 := same_new (o := .lst us) hp
        exact ⟨p, us, rfl, (s4.trans s5).trans s6, upd_same, dps_same (s35.trans s6) _ _ hu⟩
      rintro σ4 H4 ⟨vl, us', rfl, s4, hvl, hus⟩
      exact tail [] vs n hv40 (show 0 ≤ 41 by decide) _ vl l2 us' H4 (s3.trans s4) hvl hus n2 (s4 _ _ e2)
    | @way _ r a1 vs y post e hy hrow hw n =>
      rw [e] at hd
      have hv40 : (a1 :: vs).length ≤ 40 := by
        rw [← hw]
        have := hz.2
        omega
      have hr41 : r.row.length ≤ 41 := by
        rw [← hrow]
        cases er : t.row with
        | none => exact Nat.zero_le _
        | some fs => exact Nat.le_trans (hz.1 fs er) (by decide)
      obtain ⟨a, its, rfl, hs, hx⟩ := dp_hd hd
      obtain ⟨v1, v2, rfl, g1, g2⟩ : ∃ v1 v2, its = [v1, v2] ∧ Dp K H v1 r.enc ∧ Dp K H v2 (.tuple (.str y :: a1.enc :: post)) := by
        cases hx with
        | cons p1 p2 => cases p2 with
          | cons q1 q2 => cases q2; exact ⟨_, _, rfl, p1, q1⟩
      obtain ⟨c2, us2, rfl, hc2, hu2⟩ := dp_hd g2
      obtain ⟨w1, us3, rfl, hw1, hu3⟩ : ∃ w1 us3, us2 = w1 :: us3 ∧ Dp K H w1 a1.enc ∧ DpAll K H us3 post := by
        cases hu2 with
        | cons p1 p2 => exact ⟨_, _, rfl, p1, p2⟩
      refine ⟨_, rfl, a, _, _, _, rfl, rfl, hs, atI_nat (j := 0) rfl, ?_⟩
      refine ⟨_, rfl, rfl, fun H1 s1 => iteNi (ws := rowW) (by decide +kernel) ?_⟩
      refine ⟨_, rfl, rfl, _, rfl, iteNe (by decide +kernel) ?_⟩
      refine ⟨by show 0 ≤ sizeLine; decide, fun l1 hl1 => ⟨by show 0 ≤ sizeLine; decide, fun l2 hl2 => ?_⟩⟩
      have s3 := (s1.trans (same_new (o := .lst []) hl1)).trans (same_new (o := .lst []) hl2)
      have n2 : H l2 = none := free_of (s1.trans (same_new (o := .lst []) hl1)) hl2
      have e2 : (upd (upd H1 l1 (.lst [])) l2 (.lst [])) l2 = some (.lst []) := upd_same
      generalize upd (upd H1 l1 (.lst [])) l2 (.lst []) = H3 at *
      refine ⟨fun σ' H' => ∃ (vl bl : Addr) (us : List V), σ' = [some (.ref a), some (.str "way"), some (.ref vl), some (.ref bl), none] ∧ Same H3 H' ∧ H' vl = some (.lst us) ∧ DpAll K H' us ((a1 :: vs).map W.enc) ∧ H bl = none ∧ H' bl = some (.lst (r.row.map V.int)), ?_, ?_⟩
      · refine ⟨_, rfl, rfl, fun H4 s4 => iteNi (ws := ["pair", "wind"]) (by decide +kernel) ?_⟩
        refine ⟨_, rfl, rfl, fun H5 s5 => iteNi (ws := ["fun", "wait"]) (by decide +kernel) ?_⟩
        have s45 := s4.trans s5
        have s35 := s3.trans s45
        refine ⟨_, rfl, rfl, _, rfl, iteEq rfl ?_⟩
        refine ⟨fun σ' H' => ∃ bl : Addr, σ' = [some (.ref a), some (.str "way"), some (.ref l1), some (.ref bl), none] ∧ Same H5 H' ∧ H bl = none ∧ H' bl = some (.lst (r.row.map V.int)), ?_, ?_⟩
        · rcases rd_view r with ⟨x, fs, pst, er, e3, hp⟩ | ⟨x, er, e3⟩
          · rw [er] at g1
            obtain ⟨c, its3, rfl, hc, hx3⟩ := dp_hd g1
            cases hx3 with
            | cons h1 h2 =>
              obtain ⟨d, rfl, hd3⟩ := dp_ints_inv h1
              have hl3 := DpAll.len h2
              refine ⟨_, rfl, a, _, _, _, rfl, rfl, sqt_same s35 hs, atI_nat (j := 1) rfl, c, _, rfl, .inr (sqt_same s35 hc), _, _, rfl, rfl, _, rfl, ?_⟩
              rw [decide_eq_true (by simp only [List.length_cons]; omega)]
              refine iteT ⟨_, rfl, a, _, _, _, rfl, rfl, sqt_same s35 hs, atI_nat (j := 1) rfl, c, _, _, _, rfl, rfl, sqt_same s35 hc, atI_nat (j := 1) rfl, d, _, rfl, .inr (sqt_same s35 hd3), fun l hl => ?_⟩
              exact ⟨l, rfl, same_new hl, free_of s35 hl, by rw [e3]; exact upd_same⟩
          · rw [er] at g1
            obtain ⟨c, its3, rfl, hc, hx3⟩ := dp_hd g1
            cases hx3
            refine ⟨_, rfl, a, _, _, _, rfl, rfl, sqt_same s35 hs, atI_nat (j := 1) rfl, c, _, rfl, .inr (sqt_same s35 hc), _, _, rfl, rfl, _, rfl, ?_⟩
            rw [decide_eq_false (by simp)]
            exact iteF ⟨l2, rfl, Same.refl _, n2, by rw [e3]; exact s45 _ _ e2⟩
        rintro σ6 H6 ⟨bl, rfl, s6, nb, hb⟩
        have s36 := s35.trans s6
        refine ⟨_, rfl, a, _, _, _, rfl, rfl, sqt_same s36 hs, atI_nat (j := 2) rfl, c2, _, _, _, rfl, rfl, sqt_same s36 hc2, atI_nat (j := 1) rfl, by show 1 ≤ sizeLine; decide, fun p hp => ?_⟩
        have s7 := same_new (o := .lst [w1]) hp
        have e7 : (upd H6 p (.lst [w1])) p = some (.lst [w1]) := upd_same
        generalize upd H6 p (.lst [w1]) = H7 at *
        have s37 := s36.trans s7
        refine ⟨_, rfl, a, _, _, _, rfl, rfl, sqt_same s37 hs, atI_nat (j := 2) rfl, c2, _, _, _, rfl, rfl, sqt_same s37 hc2, atI_nat (j := 0) rfl, rfl, _, rfl, ?_⟩
        rcases hy with ⟨rfl, rfl, rfl⟩ | ⟨rfl, rfl⟩
        · refine iteNe (by decide +kernel) ⟨p, bl, [w1], rfl, (s45.trans s6).trans s7, e7, .cons (dp_same s37 _ _ hw1) .nil, nb, s7 _ _ hb⟩
        · obtain ⟨w2, rfl, hw2⟩ : ∃ w2, us3 = [w2] ∧ Dp K H w2 (wsT vs) := by
            cases hu3 with
            | cons p1 p2 => cases p2; exact ⟨_, rfl, p1⟩
          obtain ⟨c4, us4, rfl, hc4, hu4⟩ := dp_tup hw2
          have hul := DpAll.len hu4
          rw [List.length_map] at hul
          rw [List.length_cons] at hv40
          refine iteEq rfl ⟨_, rfl, _, rfl, a, _, _, _, rfl, rfl, sqt_same s37 hs, atI_nat (j := 2) rfl, c2, _, _, _, rfl, rfl, sqt_same s37 hc2, atI_nat (j := 2) rfl, c4, us4, rfl, .inr (sqt_same s37 hc4), fun l hl => ?_⟩
          have s8 := same_new (o := .lst us4) hl
          refine ⟨p, l, _, _, rfl, rfl, s8 _ _ e7, upd_same, Nat.le_trans (show [w1].length + us4.length ≤ 100 by show 1 + us4.length ≤ 100; omega) (by decide), fun q hq => ?_⟩
          have s9 := same_new (o := .lst ([w1] ++ us4)) hq
          have s39 := (s37.trans s8).trans s9
          exact ⟨q, bl, _, rfl, (((s45.trans s6).trans s7).trans s8).trans s9, upd_same, .cons (dp_same s39 _ _ hw1) (dps_same s39 _ _ hu4), nb, ((s7.trans s8).trans s9) _ _ hb⟩
      rintro σ4 H4 ⟨vl, bl, us, rfl, s4, hvl, hus, nb, hb⟩
      exact tail r.row (a1 :: vs) n hv40 hr41 _ vl bl us H4 (s3.trans s4) hvl hus nb hb
    | mark =>
      obtain ⟨a, its, rfl, hs, hx⟩ := dp_hd hd
      refine ⟨_, rfl, a, _, _, _, rfl, rfl, hs, atI_nat (j := 0) rfl, ?_⟩
      refine ⟨_, rfl, rfl, fun H1 s1 => iteNi (ws := rowW) (by decide +kernel) ?_⟩
      refine ⟨_, rfl, rfl, _, rfl, iteNe (by decide +kernel) ?_⟩
      refine ⟨by show 0 ≤ sizeLine; decide, fun l1 hl1 => ⟨by show 0 ≤ sizeLine; decide, fun l2 hl2 => ?_⟩⟩
      have s2 := s1.trans (same_new (o := .lst []) hl1)
      have s3 := s2.trans (same_new (o := .lst []) hl2)
      have n2 : H l2 = none := free_of s2 hl2
      have e1 : (upd (upd H1 l1 (.lst [])) l2 (.lst [])) l1 = some (.lst []) := (same_new (o := .lst []) hl2) _ _ upd_same
      have e2 : (upd (upd H1 l1 (.lst [])) l2 (.lst [])) l2 = some (.lst []) := upd_same
      generalize upd (upd H1 l1 (.lst [])) l2 (.lst []) = H3 at *
      refine ⟨fun σ' H' => σ' = [some (.ref a), some (.str "mark"), some (.ref l1), some (.ref l2), none] ∧ Same H3 H', ?_, ?_⟩
      · refine ⟨_, rfl, rfl, fun H4 s4 => iteNi (ws := ["pair", "wind"]) (by decide +kernel) ?_⟩
        refine ⟨_, rfl, rfl, fun H5 s5 => iteNi (ws := ["fun", "wait"]) (by decide +kernel) ?_⟩
        refine ⟨_, rfl, rfl, _, rfl, iteNe (by decide +kernel) ⟨rfl, s4.trans s5⟩⟩
      rintro σ4 H4 ⟨rfl, s4⟩
      exact tail [] [] rfl (show 0 ≤ 40 by decide) (show 0 ≤ 41 by decide) _ l1 l2 [] H4 (s3.trans s4) (s4 _ _ e1) .nil n2 (s4 _ _ e2)
end
end K06

set_option linter.all false
/-! closures that outlive the def that makes them: the lambda's object and its cells are known to the abstract heap -/
namespace Cm
open PySem L2 PySem.Spec PyProof.Rows LamX NdefX
/-- the cell at c holds v -/
def CellO (c : Addr) (v : V) : HO := .ext fun h => ∃ u, L2.RelV v u ∧ h.IsCell c (some u)
theorem cellO_ok {P : Program} {w : World} {H : Hp} {h : Heap} {c : Addr} {v : V} {u : Value} (r : L2.RelV v u) (e : h.IsCell c (some u)) : ObjOk P w H h c (CellO c v) :=
  ⟨⟨u, r, e⟩, let ⟨o, ho, _⟩ := e; ⟨o, ho⟩, fun h1 h2 ⟨u', r', o', e', d'⟩ k => ⟨u', r', o', k _ e', d'⟩⟩
theorem cellO_at {P : Program} {w : World} {H : Hp} {h : Heap} {c : Addr} {v : V} (hok : HOk P w H h) (e : H c = some (CellO c v)) : ∃ u, L2.RelV v u ∧ h.IsCell c (some u) := by
  have x : ObjOk P w H h c (CellO c v) := hok c _ e
  exact x.1
/-- the object at f is the lambda F with the body e -/
def LamO (f : Addr) (F : NF) (e : Expr) : HO := .ext fun h => ∃ pm ctv, h.get? f = some (PySem.W.kla_obj F.name F.qual F.params e F.scope F.cl pm F.c ctv)
theorem lamO_ok {P : Program} {w : World} {H : Hp} {h : Heap} {f : Addr} {F : NF} {e : Expr} {pm ctv : Value} (g : h.get? f = some (PySem.W.kla_obj F.name F.qual F.params e F.scope F.cl pm F.c ctv)) : ObjOk P w H h f (LamO f F e) :=
  ⟨⟨pm, ctv, g⟩, ⟨_, g⟩, fun h1 h2 ⟨pm', ctv', e'⟩ k => ⟨pm', ctv', k _ e'⟩⟩
theorem lamO_at {P : Program} {w : World} {H : Hp} {h : Heap} {f : Addr} {F : NF} {e : Expr} (hok : HOk P w H h) (g : H f = some (LamO f F e)) : ∃ pm ctv, h.get? f = some (PySem.W.kla_obj F.name F.qual F.params e F.scope F.cl pm F.c ctv) := by
  have x : ObjOk P w H h f (LamO f F e) := hok f _ g
  exact x.1
/-! cells told and untold -/
def InjC (cl : List (Str × Addr)) : Prop := ∀ x y c, cl.lookup x = some c → cl.lookup y = some c → x = y
open Classical in
/-- the cells of cl told: each holds what val has for it -/
noncomputable def expH (cl : List (Str × Addr)) (val : Str → Option V) (H : Hp) : Hp := fun b => if h : ∃ y, cl.lookup y = some b then (val h.choose).map (CellO b) else H b
open Classical in
/-- .. and untold -/
noncomputable def hideH (cl : List (Str × Addr)) (H : Hp) : Hp := fun b => if ∃ y, cl.lookup y = some b then none else H b
section
variable {cl : List (Str × Addr)} {val : Str → Option V} {H H' : Hp} {b c : Addr} {y : Str}
theorem expH_cell (i : InjC cl) (e : cl.lookup y = some c) : expH cl val H c = (val y).map (CellO c) := by
  have h : ∃ y, cl.lookup y = some c := ⟨y, e⟩
  unfold expH
  rw [dif_pos h, i _ _ _ h.choose_spec e]
theorem expH_other (n : ∀ y, cl.lookup y ≠ some b) : expH cl val H b = H b := by
  unfold expH
  rw [dif_neg fun ⟨y, e⟩ => n y e]
theorem hideH_cell (e : cl.lookup y = some c) : hideH cl H c = none := by
  unfold hideH
  rw [if_pos ⟨y, e⟩]
theorem hideH_other (n : ∀ y, cl.lookup y ≠ some b) : hideH cl H b = H b := by
  unfold hideH
  rw [if_neg fun ⟨y, e⟩ => n y e]
theorem hideH_none (e : H b = none) : hideH cl H b = none := by
  by_cases h : ∃ y, cl.lookup y = some b
  · obtain ⟨y, e⟩ := h
    exact hideH_cell e
  · rw [hideH_other fun y e => h ⟨y, e⟩]
    exact e
/-- what is told and no cell stays -/
theorem expH_keep {o : HO} (fr : ∀ y c, cl.lookup y = some c → H c = none) (e : H b = some o) : expH cl val H b = some o := by
  rw [expH_other fun y e' => by rw [fr y b e'] at e; cases e]
  exact e
theorem exp_hok {P : Program} {w : World} {h : Heap} (hok : HOk P w H h) (i : InjC cl) (fr : ∀ y c, cl.lookup y = some c → H c = none) (cs : ∀ y c v, cl.lookup y = some c → val y = some v → ∃ u, L2.RelV v u ∧ h.IsCell c (some u)) : HOk P w (expH cl val H) h := by
  intro a o e
  by_cases hc : ∃ y, cl.lookup y = some a
  · obtain ⟨y, ey⟩ := hc
    rw [expH_cell i ey] at e
    cases ev : val y with
    | none => rw [ev] at e; cases e
    | some v =>
      rw [ev] at e
      obtain rfl := (Option.some.inj e : CellO a v = o)
      obtain ⟨u, r, g⟩ := cs y a v ey ev
      exact cellO_ok r g
  · rw [expH_other fun y e' => hc ⟨y, e'⟩] at e
    exact (hok a o e).stay (fun c v _ q => q) (fun c q => expH_keep fr q) fun c xs q => expH_keep fr q
/-- what a lambda's cells hold -/
structure CellsH (cl : List (Str × Addr)) (fr : List Str) (ws : List V) (H : Hp) : Prop where
  len : ws.length = fr.length
  inj : InjC cl
  all : ∀ y c, cl.lookup y = some c → y ∈ fr
  has : ∀ (i : Nat) (y : Str), fr[i]? = some y → ∃ c v, cl.lookup y = some c ∧ ws[i]? = some v ∧ H c = some (CellO c v)
theorem CellsH.told {fr : List Str} {ws : List V} (C : CellsH cl fr ws H) (e : cl.lookup y = some c) : ∃ v, H c = some (CellO c v) := by
  obtain ⟨i, hi⟩ := List.mem_iff_getElem?.mp (C.all y c e)
  obtain ⟨c', v, e', _, z⟩ := C.has i y hi
  rw [e] at e'
  cases e'
  exact ⟨v, z⟩
theorem hide_keep {fr : List Str} {ws : List V} {o : HO} (C : CellsH cl fr ws H) (e : H b = some o) (n : ∀ v, o ≠ CellO b v) : hideH cl H b = some o := by
  rw [hideH_other fun y e' => by
    obtain ⟨v, z⟩ := C.told e'
    rw [e] at z
    exact n v (Option.some.inj z)]
  exact e
theorem hide_back {o : HO} (e : hideH cl H b = some o) : H b = some o := by
  by_cases h : ∃ y, cl.lookup y = some b
  · obtain ⟨y, ey⟩ := h
    rw [hideH_cell ey] at e
    cases e
  · rw [hideH_other fun y e => h ⟨y, e⟩] at e
    exact e
theorem hide_hok {P : Program} {w : World} {h : Heap} {fr : List Str} {ws : List V} (hok : HOk P w H h) (C : CellsH cl fr ws H) : HOk P w (hideH cl H) h := by
  intro a o e
  exact (hok a o (hide_back e)).stay (fun c v _ q => q) (fun c q => hide_keep C q fun v z => by unfold CellO at z; cases z) fun c xs q => hide_keep C q fun v z => by unfold CellO at z; cases z
theorem CellsH.at {P : Program} {w : World} {h : Heap} {fr : List Str} {ws : List V} (C : CellsH cl fr ws H) (hok : HOk P w H h) : CellsAt cl fr (ws.map some) h (hideH cl H) := by
  refine ⟨by rw [List.length_map]; exact C.len, fun y c e => ⟨hideH_cell e, ?_⟩, C.inj, fun i y e => ?_⟩
  · obtain ⟨v, z⟩ := C.told e
    obtain ⟨u, _, g⟩ := cellO_at hok z
    exact ⟨_, g⟩
  · obtain ⟨c, v, e1, e2, e3⟩ := C.has i y e
    refine ⟨c, e1, fun v' e' => ?_⟩
    rw [List.getElem?_map, e2] at e'
    cases e'
    exact cellO_at hok e3
/-- what the i-th name has -/
def valOf (fr : List Str) (ws : List V) (y : Str) : Option V := (fr.zip ws).lookup y
end
theorem zip_at {fr : List Str} {ws : List V} {y : Str} {v : V} (h : (fr.zip ws).lookup y = some v) : ∃ i : Nat, fr[i]? = some y ∧ ws[i]? = some v := by
  have m := PySem.mem_of_lookup h
  obtain ⟨i, hi⟩ := List.mem_iff_getElem?.mp m
  have := List.getElem?_zip_eq_some.mp hi
  exact ⟨i, this.1, this.2⟩
/-- the promise of a lambda: sp ws, ws what its cells hold -/
structure LOk (P : Program) (w : World) (K : PySem.W.Frag) (mg : Str → Option Value) (base : Heap) (k : Nat) (f : Addr) (F : NF) (e : Expr) (ps fr : List Str) (sp : List V → Sp) : Prop where
  len : ∀ ws vs H Q E, sp ws vs H Q E → vs.length = ps.length
  run : ∀ (A : Around) (outer : List Env) (s : Shared) (H : Hp) (us : List Value) (vs ws : List V) (Q : VK) (E : XK), Room k A → Env0 P w K mg base A outer s H → H f = some (LamO f F e) → H F.c = some (CodeO F.c F.qual) →
    CellsH F.cl fr ws H → Vals vs us → sp ws vs H Q E → codeAny (model P w) A (.call (.ref f) ⟨us, []⟩) (CR CX0 outer P w H s Q E) s
section
variable {P : Program} {w : World} {K : PySem.W.Frag} {mg : Str → Option Value} {base : Heap} {N ps fr : List Str} {F : NF} {f : Addr} {e : Expr} {k : Nat} {sp : List V → Sp}
theorem env0_hide {A : Around} {outer : List Env} {s : Shared} {H : Hp} {ws : List V} (e0 : Env0 P w K mg base A outer s H) (C : CellsH F.cl fr ws H) : Env0 P w K mg base A outer s (hideH F.cl H) :=
  ⟨e0.frames, e0.mod, fun b o e => ⟨(e0.bs b o e).1, hideH_none (e0.bs b o e).2⟩, e0.bsz, e0.funs, fun b hb => hideH_none (e0.frf b hb), hide_hok e0.hok C, e0.bare⟩
/-- THE RULE: a lambda by its body; its cells are its frame's while it runs, and told again when it ends -/
theorem lok_of (S : NScope N ps fr F.scope) (hb : ∀ (pm ctv : Value) (us : List Value), us.length = ps.length → bindArgs (PySem.W.kla_fn F.name F.qual F.params e F.scope F.cl pm (.ref F.c) ctv) ⟨us, []⟩ = pure (ps.zip us)) (len : ∀ ws vs H Q E, sp ws vs H Q E → vs.length = ps.length)
    (hbody : ∀ (A : Around) (outer : List Env) (s : Shared) (H : Hp) (vs ws : List V) (Q : VK) (E : XK), Room k (A.deeper (envF F f s.heap.objs.size)) → H f = some (LamO f F e) → H F.c = some (CodeO F.c F.qual) → CellsH F.cl fr ws H → sp ws vs H Q E →
      ∃ t, PE (ncx CX0 P w K mg base N F f A outer s (hideH F.cl H) E) e t ∧ t (startF N vs (ws.map some)) (hideH F.cl H) fun v H' => (∀ y c, F.cl.lookup y = some c → H' c = none) → Q v (expH F.cl (valOf fr ws) H')) :
    LOk P w K mg base (k + 1) f F e ps fr sp := by
  refine ⟨len, fun A outer s H us vs ws Q E hr e0 hf hc C r hsp => ?_⟩
  have hl := len _ _ _ _ _ hsp
  have lim : s.heap.NoLimit := e0.mod.nolimit.keeps fun b o e => (e0.bs b o e).1
  obtain ⟨pm, ctv, ho⟩ := lamO_at e0.hok hf
  refine PySem.W.kla_callFunE hr.depth ho rfl S.co S.gen rfl (codeO_at e0.hok hc) ?_
  rw [hb pm ctv us (by rw [← r.length]; exact hl)]
  refine wpAny_pure (wpAny_newFunctionEnv S.nocell (fun ⟨n, _⟩ hy => S.par n (List.of_mem_zip hy).1) (fun h₁ hns hsb => ⟨lim.fresh _ hsb, ?_⟩) S.kind)
  show codeAny _ _ (.expr e (envF F f s.heap.objs.size)) _ _
  have kp : ∀ b o, s.heap.get? b = some o → h₁.get? b = some o := fun b o e => hsb.extBut b o (Nat.ne_of_lt (Heap.lt_size e)) (Heap.get?_push_of_some _ e)
  obtain ⟨t, ht, hq⟩ := hbody A outer s H vs ws Q E (hr.deeper _) hf hc C hsp
  have CA := C.at e0.hok
  have I : Inv (ncx CX0 P w K mg base N F f A outer s (hideH F.cl H) E) [] (startF N vs (ws.map some)) (hideH F.cl H) { s with heap := h₁, toks := s.toks + (ps.zip us).length } := inv_startN S hr.hd (env0_hide e0 C) hl r CA hns kp
  refine PySem.W.kla_codeExpr (wpAny_mono (ht.run [] _ (startF N vs (ws.map some)) _ _ I hq) (fun u s' hs => ?_) fun e s' hs => hs)
  obtain ⟨v, H', J, rv, q⟩ := hs
  have fr' : ∀ y c, F.cl.lookup y = some c → H' c = none := fun y c e => J.freeC y c e
  have isCell : ∀ {b : Addr} {o : HO}, H b = some o → (∀ v, o ≠ CellO b v) → ∀ y, F.cl.lookup y ≠ some b := fun {b o} e n y e' => by
    obtain ⟨v, z⟩ := C.told e'
    rw [e] at z
    exact n v (Option.some.inj z)
  refine ⟨v, expH F.cl (valOf fr ws) H', J.os, J.bare, ⟨fun b o e n hb hx => J.base.keep b o e (hideH_none n) hb hx, fun b o e n hb hx => J.base.slot b o e (hideH_none n) hb hx, fun b o e n hx => ?_, fun b o e hx => J.base.there b o e hx, fun b xs e => ?_, fun b o u e => ?_, fun b ps e => ?_⟩,
    exp_hok J.hok C.inj fr' fun y c v e ev => ?_, rv, q fr'⟩
  · rw [expH_other fun y e' => by
      obtain ⟨v, z⟩ := C.told e'
      rw [n] at z
      cases z]
    exact J.base.free b o e (hideH_none n) hx
  · exact expH_keep fr' (J.base.tups b xs (hide_keep C e fun v z => by unfold CellO at z; cases z))
  · exact expH_keep fr' (J.base.frzs b o u (hide_keep C e fun v z => by unfold CellO at z; cases z))
  · obtain ⟨more, z⟩ := J.base.tbls b ps (hide_keep C e fun v z => by unfold CellO at z; cases z)
    exact ⟨more, expH_keep fr' z⟩
  · obtain ⟨i, e1, e2⟩ := zip_at ev
    have hcl := hl
    obtain ⟨m, _, hlk⟩ := J.loc
    have hpre : N[ps.length + i]? = some y := by
      have hlt : i < fr.length := (List.getElem?_eq_some_iff.mp e1).1
      have q : (N.take (ps.length + fr.length))[ps.length + i]? = (ps ++ fr)[ps.length + i]? := by rw [S.pre]
      rw [List.getElem?_take_of_lt (by omega), List.getElem?_append_right (by omega), Nat.add_sub_cancel_left, e1] at q
      exact q
    have hσ : (startF N vs (ws.map some))[ps.length + i]? = some (some v) := by
      unfold startF
      rw [List.getElem?_append_right (by rw [List.length_map]; omega), show ps.length + i - (List.map some vs).length = i by rw [List.length_map]; omega, List.getElem?_append_left (by rw [List.length_map]; exact (List.getElem?_eq_some_iff.mp e2).1), List.getElem?_map, e2]
      rfl
    have hk := S.frk y (List.mem_of_getElem? e1)
    obtain ⟨u', r', l'⟩ := hlk _ y v hpre hσ (.inr (.inr hk))
    rcases l' with ⟨z, _⟩ | ⟨_, c', ec, hcell⟩
    · have z' : F.scope.names.lookup y = some .local := z
      rw [hk] at z'
      cases z'
    · have ec' : F.cl.lookup y = some c' := ec
      rw [e] at ec'
      cases ec'
      exact ⟨u', r', hcell⟩
end
end Cm

set_option linter.all false
/-! a lambda as a value; a call of a name that holds one; a def that hands its cells on -/
namespace Cm
open PySem L2 PySem.Spec PyProof.Rows LamX NdefX
section
variable {X : Cx} {pins : List (Addr × Obj)} {σ : L2.St} {H : Hp} {s : Shared}
/-- a lambda's object just made is told -/
theorem inv_lam {F : NF} {e : Expr} {t' : Nat} {pm ctv : Value} {h : Heap} (I : Inv X pins σ H { s with heap := h, toks := t' }) :
    Inv X pins σ (upd H h.objs.size (LamO h.objs.size F e)) { s with heap := h.push (PySem.W.kla_obj F.name F.qual F.params e F.scope F.cl pm F.c ctv), toks := t' } :=
  I.laid (a := h.objs.size) (fun b u g => Heap.get?_push_of_some _ g) (Nat.le_refl _) (lamO_ok (pm := pm) (ctv := ctv) (Heap.get?_push_size _ rfl))
/-- the lambda is made: its code object is new, or found in the table -/
theorem lam_make {T : List (Addr × Str)} {c P : Addr} {params : Arguments} {body : Expr} {scope : Scope} {pos : Pos} {E : Value → Shared → Prop} {Q : Value → Shared → Prop} (I : Inv X pins σ H s) (TB : TabB X.base X.mg c P) (hcode : X.env.code = .ref c)
    (hm : (P, X.env.qual ++ "<lambda>") ∈ T) (hu : ∀ p ∈ T, p.1 = P → p.2 = X.env.qual ++ "<lambda>") (hT : Tabs T H) (hdef : defaultsOf params X.env = ([], [])) (hfree : ∀ y ∈ scope.names, y.2 = .free → ∃ c, X.env.cells.lookup y.1 = some c)
    (h : ∀ (f c' : Addr) (H1 : Hp) (s' : Shared), Inv X pins σ H1 s' → ExtN H H1 → Tabs T H1 → H f = none → H1 f = some (LamO f ⟨"<lambda>", X.env.qual ++ "<lambda>", params, [], scope, cloFrom X.env.cells scope.names [], c'⟩ body) → H1 c' = some (CodeO c' (X.env.qual ++ "<lambda>")) → Q (.ref f) s') :
    wpAny (model X.prog X.w) X.A (eval (.Lambda params body scope pos) X.env) Q E s := by
  obtain ⟨ps, hP, ht, ha⟩ := hT _ hm
  have bP : s.heap.BuiltinsAt X.mg P := TB.bm.keeps I.bk
  have hP' : s.heap.get? P = some { cls := .none, data := .fields ps } := I.hok P _ hP
  refine PySem.W.kla_eval hdef ?_
  cases hc : codeAmong pos ps.toList with
  | none =>
    refine PySem.W.kla_makeFunction (mg := X.mg) (c := c) (P := P) (ps := ps) (closure_ok hfree) I.ok.glob (I.mod.glob.keeps I.bk) hcode (TB.code.keeps I.bk) hP' ht hc TB.gP bP fun c' ctv h' tk hx hge hlt hrec htb => ?_
    obtain ⟨c2, oc, vs, t, e2, hoc, hd, hv⟩ := hrec
    cases e2
    have nC : H c' = none := I.hok.fresh hge
    have I1 := inv_table (t' := tk) (more := #[rawInt pos.line, rawInt pos.col, .ref c']) (h' := h') I hP (fun b o hb e => hx b o hb e) htb hge ⟨oc, vs, t, hoc, hd, hv⟩
    have nf := I1.hok.fresh (Nat.le_refl h'.objs.size)
    have hE : ExtN H (upd (upd H P (.tbl (ps ++ #[rawInt pos.line, rawInt pos.col, .ref c']))) c' (CodeO c' (X.env.qual ++ "<lambda>"))) := fun b o e n => by
      rw [upd_ne (ne_of_none e nC), upd_ne (fun z => n ps (Option.some.inj (e.symm.trans (by rw [z]; exact hP))))]
      exact e
    have ext : ∀ b o, upd (upd H P (.tbl (ps ++ #[rawInt pos.line, rawInt pos.col, .ref c']))) c' (CodeO c' (X.env.qual ++ "<lambda>")) b = some o →
        upd (upd (upd H P (.tbl (ps ++ #[rawInt pos.line, rawInt pos.col, .ref c']))) c' (CodeO c' (X.env.qual ++ "<lambda>"))) h'.objs.size (LamO h'.objs.size ⟨"<lambda>", X.env.qual ++ "<lambda>", params, [], scope, cloFrom X.env.cells scope.names [], c'⟩ body) b = some o := fun b o e => by
      rw [upd_ne (ne_of_none e nf)]
      exact e
    have eL : (ps ++ #[rawInt pos.line, rawInt pos.col, .ref c']).toList = ps.toList ++ [rawInt pos.line, rawInt pos.col, .ref c'] := by simp
    refine h h'.objs.size c' _ _ (inv_lam (F := ⟨"<lambda>", X.env.qual ++ "<lambda>", params, [], scope, cloFrom X.env.cells scope.names [], c'⟩) (pm := (X.mg "__name__").getD .none) (ctv := ctv) I1) (fun b o e n => ext b o (hE b o e n)) (Tabs.ext (fun p hp => ?_) ext) (I.hok.fresh (Nat.le_trans hge (Nat.le_of_lt hlt))) upd_same (ext _ _ upd_same)
    by_cases hb : p.1 = P
    · rw [hu p hp hb, hb]
      refine ⟨_, by rw [upd_ne (ne_of_none hP nC), upd_same], by rw [eL]; exact PySem.TriplesOk_snoc _ _ _ _ ht, fun p' cv hcv => ?_⟩
      rw [eL] at hcv
      rcases among_app _ ht hcv with z | z
      · obtain ⟨c0, e1, e2⟩ := ha p' cv z
        exact ⟨c0, e1, hE _ _ e2 codeO_ne⟩
      · exact ⟨c', z, upd_same⟩
    · obtain ⟨ps', a1, a2, a3⟩ := hT p hp
      refine ⟨ps', by rw [upd_ne (ne_of_none a1 nC), upd_ne hb]; exact a1, a2, fun p' cv hcv => ?_⟩
      obtain ⟨c0, e1, e2⟩ := a3 p' cv hcv
      exact ⟨c0, e1, hE _ _ e2 codeO_ne⟩
  | some cv =>
    obtain ⟨c', e, hco⟩ := ha pos cv hc
    subst e
    refine PySem.W.kla_makeFunctionHit (mg := X.mg) (c := c) (P := P) (ps := ps) (closure_ok hfree) I.ok.glob (I.mod.glob.keeps I.bk) hcode (TB.code.keeps I.bk) hP' ht hc bP fun ctv h' tk hx hsz => ?_
    have I1 : Inv X pins σ H { s with heap := h', toks := tk } := I.kept hx
    have nf := I1.hok.fresh (Nat.le_refl h'.objs.size)
    have ext : ∀ b o, H b = some o → upd H h'.objs.size (LamO h'.objs.size ⟨"<lambda>", X.env.qual ++ "<lambda>", params, [], scope, cloFrom X.env.cells scope.names [], c'⟩ body) b = some o := fun b o e => by
      rw [upd_ne (ne_of_none e nf)]
      exact e
    exact h h'.objs.size c' _ _ (inv_lam (F := ⟨"<lambda>", X.env.qual ++ "<lambda>", params, [], scope, cloFrom X.env.cells scope.names [], c'⟩) (pm := (X.mg "__name__").getD .none) (ctv := ctv) I1) (ExtN.of ext) (hT.ext ext) nf upd_same (ext _ _ hco)
end
/-- the reading of «lambda ..: e» as a value -/
def tLamV (T : List (Addr × Str)) (q : Str) (params : Arguments) (e : Expr) (scope : Scope) (cl : List (Str × Addr)) : TE := fun σ H Q => Tabs T H ∧ ∀ (f c' : Addr) (H1 : Hp), ExtN H H1 → Tabs T H1 → H f = none → H1 f = some (LamO f ⟨"<lambda>", q, params, [], scope, cl, c'⟩ e) → H1 c' = some (CodeO c' q) → Q (.ref f) H1
theorem pe_lamV {X : Cx} {T : List (Addr × Str)} {c P : Addr} {params : Arguments} {body : Expr} {scope : Scope} {pos : Pos} (TB : TabB X.base X.mg c P) (hcode : X.env.code = .ref c)
    (hm : (P, X.env.qual ++ "<lambda>") ∈ T) (hu : ∀ p ∈ T, p.1 = P → p.2 = X.env.qual ++ "<lambda>") (hdef : defaultsOf params X.env = ([], [])) (hfree : ∀ y ∈ scope.names, y.2 = .free → X.env.scope.names.lookup y.1 = some .cell ∨ X.env.scope.names.lookup y.1 = some .free) :
    PE X (.Lambda params body scope pos) (tLamV T (X.env.qual ++ "<lambda>") params body scope (cloFrom X.env.cells scope.names [])) := by
  refine ⟨fun pins s σ H Q I h => ?_⟩
  obtain ⟨hT, h⟩ := h
  have hf : ∀ y ∈ scope.names, y.2 = .free → ∃ c, X.env.cells.lookup y.1 = some c := fun y hy e => (hfree y hy e).elim (fun z => I.ok.has _ (.inl z)) fun z => I.ok.has _ (.inr z)
  exact lam_make I TB hcode hm hu hT hdef hf fun f c' H1 s' I1 eN T1 f0 f1 c1 => ⟨.ref f, H1, I1, rfl, h f c' H1 eN T1 f0 f1 c1⟩
/-- f(..), f a name that holds a lambda with these words -/
def tCallL (q : Str) (params : Arguments) (e : Expr) (scope : Scope) (fr : List Str) (i : Nat) (sp : List V → Sp) (t : TA) : TE := fun σ H Q => ∃ f cl c, σ[i]? = some (some (.ref f)) ∧ H f = some (LamO f ⟨"<lambda>", q, params, [], scope, cl, c⟩ e) ∧
  t σ H fun vs H1 => H1 f = some (LamO f ⟨"<lambda>", q, params, [], scope, cl, c⟩ e) ∧ H1 c = some (CodeO c q) ∧ ∃ ws, CellsH cl fr ws H1 ∧ sp ws vs H1 Q E0
section
variable {X : Cx} {q : Str} {params : Arguments} {b : Expr} {scope : Scope} {ps fr : List Str} {i j k : Nat} {x : Str} {sp : List V → Sp} {t : TA} {e : Expr} {es : List Expr} {p pos : Pos}
theorem pe_callL (Fn : ∀ f cl c, LOk X.prog X.w X.K X.mg X.base k f ⟨"<lambda>", q, params, [], scope, cl, c⟩ b ps fr sp) (hr : Room j X.A) (hk : k ≤ j) (hN : X.N[i]? = some x) (hv : Vis X.env.scope x) (ha : PA X (e :: es) t)
    (hd : (x == ("__debug__" : Str)) = false := by decide) (hcd : (x == ("__classdict__" : Str)) = false := by decide)
    (he : starEach (e :: es) X.env = (false, eval e X.env) :: starEach es X.env := by rfl) (hpl : (backTo pos (starEach es X.env)).any (·.1) = false := by rfl) :
    PE X (.Call (.Name x p) (e :: es) [] pos) (tCallL q params b scope fr i sp t) := by
  refine ⟨fun pins s σ H Q I h => ?_⟩
  obtain ⟨f, cl, c, hs, hf, ht⟩ := h
  refine wpAny_Call_Name_kw (thn ((pe_var (pos := p) hN hv hd hcd).run pins s σ H (fun v H1 => v = .ref f ∧ H1 = H) I ⟨.ref f, hs, rfl, rfl⟩) fun u s1 ⟨v, H1, I1, r1, q1⟩ => ?_)
  obtain ⟨ev, eH⟩ := q1
  subst ev
  rw [eH] at I1
  obtain rfl : u = Value.ref f := r1
  have fa : ∀ {H s}, Inv X pins σ H s → H f = some (LamO f ⟨"<lambda>", q, params, [], scope, cl, c⟩ b) → PySem.W.FnAt f s.heap := fun I e => by
    obtain ⟨pm, ctv, ho⟩ := lamO_at I.hok e
    exact ⟨_, _, _, _, ho⟩
  refine PySem.W.callWith_F (first := []) (fa I1 hf) (thn (ha.run pos pins s1 σ H _ I1 ht) fun us s2 ⟨vs, H2, I2, r, h1, h2, ws, C, q⟩ => ⟨fa I2 h1, ?_⟩) he hpl
  show wpAny _ _ (call (.ref f) us) _ _ _
  refine wpAny_call (codeAny_mono ((Fn f cl c).run X.A X.stack s2 H2 us vs ws Q E0 (hr.mono hk) I2.env0 h1 h2 C r q) fun r s' hq => ?_)
  cases r with
  | error e => exact (show False from hq).elim
  | ok fl =>
    cases fl with
    | ret u => exact I2.after hq
    | next => exact False.elim hq
    | brk => exact False.elim hq
    | cont => exact False.elim hq
end
end Cm

set_option linter.all false
/-! lambdas whose maker still runs: its cells are told frozen -/
namespace Cm
open PySem L2 PySem.Spec PyProof.Rows LamX NdefX
/-- what a lambda's cells hold while its maker runs -/
structure CellsF (cl : List (Str × Addr)) (fr : List Str) (ws : List V) (H : Hp) : Prop where
  len : ws.length = fr.length
  inj : InjC cl
  all : ∀ y c, cl.lookup y = some c → y ∈ fr
  has : ∀ (i : Nat) (y : Str), fr[i]? = some y → ∃ c v o, cl.lookup y = some c ∧ ws[i]? = some v ∧ H c = some (.frz o (CellO c v))
open Classical in
/-- the cells as they were told in H, all else as in H' -/
noncomputable def backH (cl : List (Str × Addr)) (H H' : Hp) : Hp := fun b => if ∃ y, cl.lookup y = some b then H b else H' b
section
variable {cl : List (Str × Addr)} {H H' : Hp} {b c : Addr} {y : Str} {fr : List Str} {ws : List V}
theorem backH_cell (e : cl.lookup y = some c) : backH cl H H' c = H c := by
  unfold backH
  rw [if_pos ⟨y, e⟩]
theorem backH_other (n : ∀ y, cl.lookup y ≠ some b) : backH cl H H' b = H' b := by
  unfold backH
  rw [if_neg fun ⟨y, e⟩ => n y e]
theorem backH_keep {o : HO} (fr : ∀ y c, cl.lookup y = some c → H' c = none) (e : H' b = some o) : backH cl H H' b = some o := by
  rw [backH_other fun y e' => by rw [fr y b e'] at e; cases e]
  exact e
theorem CellsF.told (C : CellsF cl fr ws H) (e : cl.lookup y = some c) : ∃ v o, H c = some (.frz o (CellO c v)) := by
  obtain ⟨i, hi⟩ := List.mem_iff_getElem?.mp (C.all y c e)
  obtain ⟨c', v, o, e', _, z⟩ := C.has i y hi
  rw [e] at e'
  cases e'
  exact ⟨v, o, z⟩
/-- what is told and not frozen so is no cell -/
theorem hideF_keep {o : HO} (C : CellsF cl fr ws H) (e : H b = some o) (n : ∀ v u, o ≠ .frz u (CellO b v)) : hideH cl H b = some o := by
  rw [hideH_other fun y e' => by
    obtain ⟨v, u, z⟩ := C.told e'
    rw [e] at z
    exact n v u (Option.some.inj z)]
  exact e
theorem frzC_at {P : Program} {w : World} {h : Heap} {o : Obj} {v : V} (hok : HOk P w H h) (e : H c = some (.frz o (CellO c v))) : h.get? c = some o ∧ ∃ u, L2.RelV v u ∧ h.IsCell c (some u) := by
  have x : ObjOk P w H h c (.frz o (CellO c v)) := hok c _ e
  exact ⟨x.1, x.2.1⟩
theorem hideF_hok {P : Program} {w : World} {h : Heap} (hok : HOk P w H h) (C : CellsF cl fr ws H) : HOk P w (hideH cl H) h := fun a o e =>
  (hok a o (hide_back e)).stay (fun c v _ q => q) (fun c q => hideF_keep C q fun v u z => by cases z) fun c xs q => hideF_keep C q fun v u z => by cases z
theorem CellsF.at {P : Program} {w : World} {h : Heap} (C : CellsF cl fr ws H) (hok : HOk P w H h) : CellsAt cl fr (ws.map some) h (hideH cl H) := by
  refine ⟨by rw [List.length_map]; exact C.len, fun y c e => ⟨hideH_cell e, ?_⟩, C.inj, fun i y e => ?_⟩
  · obtain ⟨v, o, z⟩ := C.told e
    obtain ⟨_, u, _, g⟩ := frzC_at hok z
    exact ⟨_, g⟩
  · obtain ⟨c, v, o, e1, e2, e3⟩ := C.has i y e
    refine ⟨c, e1, fun v' e' => ?_⟩
    rw [List.getElem?_map, e2] at e'
    cases e'
    exact (frzC_at hok e3).2
end
/-- the promise of a lambda whose maker still runs -/
structure LOkF (P : Program) (w : World) (K : PySem.W.Frag) (mg : Str → Option Value) (base : Heap) (k : Nat) (f : Addr) (F : NF) (e : Expr) (ps fr : List Str) (sp : List V → Sp) : Prop where
  len : ∀ ws vs H Q E, sp ws vs H Q E → vs.length = ps.length
  run : ∀ (A : Around) (outer : List Env) (s : Shared) (H : Hp) (us : List Value) (vs ws : List V) (Q : VK) (E : XK), Room k A → Env0 P w K mg base A outer s H → H f = some (LamO f F e) → H F.c = some (CodeO F.c F.qual) →
    CellsF F.cl fr ws H → Vals vs us → sp ws vs H Q E → codeAny (model P w) A (.call (.ref f) ⟨us, []⟩) (CR CX0 outer P w H s Q E) s
section
variable {P : Program} {w : World} {K : PySem.W.Frag} {mg : Str → Option Value} {base : Heap} {N ps fr : List Str} {F : NF} {f : Addr} {e : Expr} {k : Nat} {sp : List V → Sp}
theorem lokF_of (S : NScope N ps fr F.scope) (hb : ∀ (pm ctv : Value) (us : List Value), us.length = ps.length → bindArgs (PySem.W.kla_fn F.name F.qual F.params e F.scope F.cl pm (.ref F.c) ctv) ⟨us, []⟩ = pure (ps.zip us)) (len : ∀ ws vs H Q E, sp ws vs H Q E → vs.length = ps.length)
    (hbody : ∀ (A : Around) (outer : List Env) (s : Shared) (H : Hp) (vs ws : List V) (Q : VK) (E : XK), Room k (A.deeper (envF F f s.heap.objs.size)) → H f = some (LamO f F e) → H F.c = some (CodeO F.c F.qual) → CellsF F.cl fr ws H → sp ws vs H Q E →
      ∃ t, PE (ncx CX0 P w K mg base N F f A outer s (hideH F.cl H) E) e t ∧ t (startF N vs (ws.map some)) (hideH F.cl H) fun v H' => (∀ y c, F.cl.lookup y = some c → H' c = none) → Q v (backH F.cl H H')) :
    LOkF P w K mg base (k + 1) f F e ps fr sp := by
  refine ⟨len, fun A outer s H us vs ws Q E hr e0 hf hc C r hsp => ?_⟩
  have hl := len _ _ _ _ _ hsp
  have lim : s.heap.NoLimit := e0.mod.nolimit.keeps fun b o e => (e0.bs b o e).1
  obtain ⟨pm, ctv, ho⟩ := lamO_at e0.hok hf
  refine PySem.W.kla_callFunE hr.depth ho rfl S.co S.gen rfl (codeO_at e0.hok hc) ?_
  rw [hb pm ctv us (by rw [← r.length]; exact hl)]
  refine wpAny_pure (wpAny_newFunctionEnv S.nocell (fun ⟨n, _⟩ hy => S.par n (List.of_mem_zip hy).1) (fun h₁ hns hsb => ⟨lim.fresh _ hsb, ?_⟩) S.kind)
  show codeAny _ _ (.expr e (envF F f s.heap.objs.size)) _ _
  have kp : ∀ b o, s.heap.get? b = some o → h₁.get? b = some o := fun b o e => hsb.extBut b o (Nat.ne_of_lt (Heap.lt_size e)) (Heap.get?_push_of_some _ e)
  obtain ⟨t, ht, hq⟩ := hbody A outer s H vs ws Q E (hr.deeper _) hf hc C hsp
  have e1 : Env0 P w K mg base A outer s (hideH F.cl H) := ⟨e0.frames, e0.mod, fun b o e => ⟨(e0.bs b o e).1, hideH_none (e0.bs b o e).2⟩, e0.bsz, e0.funs, fun b hb => hideH_none (e0.frf b hb), hideF_hok e0.hok C, e0.bare⟩
  have I : Inv (ncx CX0 P w K mg base N F f A outer s (hideH F.cl H) E) [] (startF N vs (ws.map some)) (hideH F.cl H) { s with heap := h₁, toks := s.toks + (ps.zip us).length } := inv_startN S hr.hd e1 hl r (C.at e0.hok) hns kp
  refine PySem.W.kla_codeExpr (wpAny_mono (ht.run [] _ (startF N vs (ws.map some)) _ _ I hq) (fun u s' hs => ?_) fun e s' hs => hs)
  obtain ⟨v, H', J, rv, q⟩ := hs
  have fr' : ∀ y c, F.cl.lookup y = some c → H' c = none := fun y c e => J.freeC y c e
  refine ⟨v, backH F.cl H H', J.os, J.bare, ⟨fun b o e n hb hx => J.base.keep b o e (hideH_none n) hb hx, fun b o e n hb hx => J.base.slot b o e (hideH_none n) hb hx, fun b o e n hx => ?_, fun b o e hx => J.base.there b o e hx, fun b xs e => ?_, fun b o u e => ?_, fun b ps e => ?_⟩,
    fun a o e => ?_, rv, q fr'⟩
  · rw [backH_other fun y e' => by
      obtain ⟨v, o', z⟩ := C.told e'
      rw [n] at z
      cases z]
    exact J.base.free b o e (hideH_none n) hx
  · exact backH_keep fr' (J.base.tups b xs (hideF_keep C e fun v u z => by cases z))
  · by_cases hcell : ∃ y, F.cl.lookup y = some b
    · obtain ⟨y, ey⟩ := hcell
      rw [backH_cell ey]
      exact e
    · rw [backH_other fun y e' => hcell ⟨y, e'⟩]
      refine J.base.frzs b o u ?_
      rw [show (ncx CX0 P w K mg base N F f A outer s (hideH F.cl H) E).H_0 = hideH F.cl H from rfl, hideH_other fun y e' => hcell ⟨y, e'⟩]
      exact e
  · obtain ⟨more, z⟩ := J.base.tbls b ps (hideF_keep C e fun v u z => by cases z)
    exact ⟨more, backH_keep fr' z⟩
  · by_cases hcell : ∃ y, F.cl.lookup y = some a
    · obtain ⟨y, ey⟩ := hcell
      rw [backH_cell ey] at e
      obtain ⟨v', o', z⟩ := C.told ey
      rw [e] at z
      cases Option.some.inj z
      obtain ⟨g1, u', r', oc, g2, g3⟩ := frzC_at e0.hok e
      have nfs : a ∉ frs outer := fun m => by
        rw [e0.frf a m] at e
        cases e
      have g4 : s'.heap.get? a = some o' := J.base.keep a o' g1 (hideH_cell ey) nfs (by intro m; cases m)
      rw [g1] at g2
      cases Option.some.inj g2
      exact ⟨g4, cellO_ok r' ⟨o', g4, g3⟩⟩
    · rw [backH_other fun y e' => hcell ⟨y, e'⟩] at e
      exact (J.hok a o e).stay (fun c v _ q => q) (fun c q => backH_keep fr' q) fun c xs q => backH_keep fr' q
end
/-- f(..), f a name that holds such a lambda -/
def tCallLF (q : Str) (params : Arguments) (e : Expr) (scope : Scope) (fr : List Str) (i : Nat) (sp : List V → Sp) (t : TA) : TE := fun σ H Q => ∃ f cl c, σ[i]? = some (some (.ref f)) ∧ H f = some (LamO f ⟨"<lambda>", q, params, [], scope, cl, c⟩ e) ∧
  t σ H fun vs H1 => H1 f = some (LamO f ⟨"<lambda>", q, params, [], scope, cl, c⟩ e) ∧ H1 c = some (CodeO c q) ∧ ∃ ws, CellsF cl fr ws H1 ∧ sp ws vs H1 Q E0
section
variable {X : Cx} {q : Str} {params : Arguments} {b : Expr} {scope : Scope} {ps fr : List Str} {i j k : Nat} {x : Str} {sp : List V → Sp} {t : TA} {e : Expr} {es : List Expr} {p pos : Pos}
theorem pe_callLF (Fn : ∀ f cl c, LOkF X.prog X.w X.K X.mg X.base k f ⟨"<lambda>", q, params, [], scope, cl, c⟩ b ps fr sp) (hr : Room j X.A) (hk : k ≤ j) (hN : X.N[i]? = some x) (hv : Vis X.env.scope x) (ha : PA X (e :: es) t)
    (hd : (x == ("__debug__" : Str)) = false := by decide) (hcd : (x == ("__classdict__" : Str)) = false := by decide)
    (he : starEach (e :: es) X.env = (false, eval e X.env) :: starEach es X.env := by rfl) (hpl : (backTo pos (starEach es X.env)).any (·.1) = false := by rfl) :
    PE X (.Call (.Name x p) (e :: es) [] pos) (tCallLF q params b scope fr i sp t) := by
  refine ⟨fun pins s σ H Q I h => ?_⟩
  obtain ⟨f, cl, c, hs, hf, ht⟩ := h
  refine wpAny_Call_Name_kw (thn ((pe_var (pos := p) hN hv hd hcd).run pins s σ H (fun v H1 => v = .ref f ∧ H1 = H) I ⟨.ref f, hs, rfl, rfl⟩) fun u s1 ⟨v, H1, I1, r1, q1⟩ => ?_)
  obtain ⟨ev, eH⟩ := q1
  subst ev
  rw [eH] at I1
  obtain rfl : u = Value.ref f := r1
  have fa : ∀ {H s}, Inv X pins σ H s → H f = some (LamO f ⟨"<lambda>", q, params, [], scope, cl, c⟩ b) → PySem.W.FnAt f s.heap := fun I e => by
    obtain ⟨pm, ctv, ho⟩ := lamO_at I.hok e
    exact ⟨_, _, _, _, ho⟩
  refine PySem.W.callWith_F (first := []) (fa I1 hf) (thn (ha.run pos pins s1 σ H _ I1 ht) fun us s2 ⟨vs, H2, I2, r, h1, h2, ws, C, q⟩ => ⟨fa I2 h1, ?_⟩) he hpl
  show wpAny _ _ (call (.ref f) us) _ _ _
  refine wpAny_call (codeAny_mono ((Fn f cl c).run X.A X.stack s2 H2 us vs ws Q E0 (hr.mono hk) I2.env0 h1 h2 C r q) fun r s' hq => ?_)
  cases r with
  | error e => exact (show False from hq).elim
  | ok fl =>
    cases fl with
    | ret u => exact I2.after hq
    | next => exact False.elim hq
    | brk => exact False.elim hq
    | cont => exact False.elim hq
end
end Cm

set_option linter.all false
/-! a def that hands its cells on: when it returns, they are told -/
namespace Cm
open PySem L2 PySem.Spec PyProof.Rows LamX NdefX
/-- what the names hold -/
def valS (N : List Str) (σ : L2.St) (y : Str) : Option V := match (N.zip σ).lookup y with
  | some (some v) => some v
  | _ => none
theorem valS_at {N : List Str} {σ : L2.St} {y : Str} {v : V} (h : valS N σ y = some v) : ∃ i : Nat, N[i]? = some y ∧ σ[i]? = some (some v) := by
  unfold valS at h
  cases e : (N.zip σ).lookup y with
  | none => rw [e] at h; cases h
  | some o =>
    rw [e] at h
    cases o with
    | none => cases h
    | some v' =>
      cases h
      obtain ⟨i, hi⟩ := List.mem_iff_getElem?.mp (PySem.mem_of_lookup e)
      have := List.getElem?_zip_eq_some.mp hi
      exact ⟨i, this.1, this.2⟩
theorem cellsFrom_kind {y : Str} {c : Addr} : ∀ {names : List (Str × NameKind)} {n : Nat} {acc : List (Str × Addr)}, (cellsFrom n names acc).lookup y = some c → (y, NameKind.cell) ∈ names ∨ acc.lookup y = some c
  | [], _, _, h => .inr h
  | (x, kd) :: r, n, acc, h => by
    unfold cellsFrom at h
    by_cases z : (kd == .cell) = true
    · rw [if_pos z] at h
      have ez : kd = .cell := by
        cases kd <;> first | rfl | cases z
      rcases cellsFrom_kind h with q | q
      · exact .inl (List.mem_cons_of_mem _ q)
      · by_cases exy : y = x
        · subst exy
          subst ez
          exact .inl List.mem_cons_self
        · rw [List.lookup_cons, show (y == x) = false from beq_eq_false_iff_ne.mpr exy] at q
          exact .inr q
    · rw [if_neg z] at h
      rcases cellsFrom_kind h with q | q
      · exact .inl (List.mem_cons_of_mem _ q)
      · exact .inr q
section
variable {P : Program} {w : World} {K : PySem.W.Frag} {mg : Str → Option Value} {base : Heap}
theorem okC {x qual : Str} {st st1 : Stmt} {e : Expr} {rp : Pos} {f : Addr} {oc : Value} {od : Option Addr} {kV doc pm cdv ct : Value} {an : Option Addr} {osl : Array (Option Value)} {N ps : List Str} {k : Nat} {sp : Sp}
    (lk : K.lookup f = some ⟨oc, od, .func (PySem.W.fnOf x qual (defArgs st) (defBody st) (defScope st) .none kV doc pm an cdv ct), osl⟩) (hcd : PySem.W.codeIn K cdv qual = true) (eb : defBody st = [st1, .Return (some e) rp]) (S : FnScope N ps (defScope st))
    (kc : ((defScope st).names.all fun p => !decide (p.2 = .cell) || decide ((defScope st).names.lookup p.1 = some .cell)) = true) (len : ∀ vs H Q E, sp vs H Q E → vs.length = ps.length)
    (hbody : ∀ (A : Around) (outer : List Env) (s : Shared) (H : Hp) (vs : List V) (Q : VK) (E : XK), Room k (A.deeper (envOfC qual (defScope st) s.heap.objs.size f cdv)) → sp vs H Q E →
      ∃ t te, PS (cxOf CX0 P w K mg base N qual (defScope st) f cdv A outer s H E).nox st1 t ∧ PE (cxOf CX0 P w K mg base N qual (defScope st) f cdv A outer s H E).nox e te ∧
        t { nx := fun σ' H' => te σ' H' fun v H'' => (∀ y c, (cellsFrom (s.heap.objs.size + 1) (defScope st).names []).lookup y = some c → H'' c = none) → InjC (cellsFrom (s.heap.objs.size + 1) (defScope st).names []) → Q v (expH (cellsFrom (s.heap.objs.size + 1) (defScope st).names []) (valS N σ') H''), rt := Q } (L2.start N vs) H) :
    FnOk P w K mg base CX0 (k + 1) f (PySem.W.fnOf x qual (defArgs st) (defBody st) (defScope st) .none kV doc pm an cdv ct) ps sp := by
  refine ⟨len, fun A outer s H args us vs Q E hr e0 hb r hsp => ?_⟩
  have hl := len _ _ _ _ hsp
  have KX : K.In s.heap := e0.mod.kin.keeps fun b o e => (e0.bs b o e).1
  have lim : s.heap.NoLimit := e0.mod.nolimit.keeps fun b o e => (e0.bs b o e).1
  have hkind : ∀ y ∈ ps.zip us, (defScope st).names.lookup y.1 = some .local ∨ ((defScope st).names.lookup y.1 = some .cell ∧ ((cellsFrom (s.heap.objs.size + 1) (defScope st).names []).lookup y.1).isSome = true) := fun ⟨n, v⟩ hy => by
    rcases S.par n (List.of_mem_zip hy).1 with q | q
    · exact .inl q
    · exact .inr ⟨q, PySem.W.cellsFrom_some _ _ _ (.inl q)⟩
  refine codeAny_call_function hr.depth (KX _ _ lk) rfl S.co S.gen rfl (PySem.W.codeRec_of KX hcd) (hb _ _ _ _ ?_)
  refine wpAny_newFunctionEnv_cells S.kind hkind fun env he s1 x1 => ?_
  subst he
  refine ⟨lim.keeps x1.toInCall.keep, codeAny_func ?_⟩
  obtain ⟨t, te, ht, hte, hq⟩ := hbody A outer s H vs Q E (hr.deeper _) hsp
  have I : Inv (cxOf CX0 P w K mg base N qual (defScope st) f cdv A outer s H E) [] (L2.start N vs) H s1 := inv_start S hr.hd e0 hl r x1
  have kcell : ∀ y c, (cellsFrom (s.heap.objs.size + 1) (defScope st).names []).lookup y = some c → (defScope st).names.lookup y = some .cell := fun y c e => by
    rcases cellsFrom_kind e with m | z
    · have := List.all_eq_true.mp kc _ m
      simpa using this
    · cases z
  have fin : ∀ {σ' : L2.St} {H' : Hp} {v : V} {u : Value} {s' : Shared}, Inv (cxOf CX0 P w K mg base N qual (defScope st) f cdv A outer s H E) [] σ' H' s' → L2.RelV v u → Q v H' → CE outer P w H s Q u s' :=
    fun {σ' H' v u s'} J rv q => ⟨v, H', J.os, J.bare, J.base, J.hok, rv, q⟩
  rw [eb]
  refine wpAny_execs_cons (wpAny_mono (ht.run [] s1 (L2.start N vs) H _ (I.wish _) hq) (fun fl s2 hs => ?_) fun _ _ z => False.elim z)
  cases fl with
  | ret u =>
    obtain ⟨v, σ', H', J, rv, q⟩ := hs
    exact fin J.unwish rv q
  | brk =>
    obtain ⟨_, _, _, q⟩ := hs
    exact False.elim q
  | cont =>
    obtain ⟨_, _, _, q⟩ := hs
    exact False.elim q
  | next =>
    obtain ⟨σ', H', J, q⟩ := hs
    refine wpAny_execs_cons (wpAny_Return_some (wpAny_mono (hte.run [] s2 σ' H' _ J q) (fun u s3 hz => ?_) fun _ _ z => False.elim z))
    obtain ⟨v, H3, J3', rv, q3⟩ := hz
    have J3 := J3'.unwish
    have frc : ∀ y c, (cellsFrom (s.heap.objs.size + 1) (defScope st).names []).lookup y = some c → H3 c = none := fun y c e => J3.freeC y c e
    have inj : InjC (cellsFrom (s.heap.objs.size + 1) (defScope st).names []) := J3.ok.inj
    have new : ∀ y c, (cellsFrom (s.heap.objs.size + 1) (defScope st).names []).lookup y = some c → s.heap.objs.size ≤ c := fun y c e => J3.ok.cab y c rfl e
    refine ⟨v, expH (cellsFrom (s.heap.objs.size + 1) (defScope st).names []) (valS N σ') H3, J3.os, J3.bare, ⟨J3.base.keep, J3.base.slot, fun b o e n hx => ?_, J3.base.there, fun b xs e => expH_keep frc (J3.base.tups b xs e), fun b o u e => expH_keep frc (J3.base.frzs b o u e), fun b ps e => ?_⟩,
      exp_hok J3.hok inj frc fun y c v' e ev => ?_, rv, q3 frc inj⟩
    · rw [expH_other fun y e' => Nat.lt_irrefl _ (Nat.lt_of_lt_of_le (Heap.lt_size e) (new y b e'))]
      exact J3.base.free b o e n hx
    · obtain ⟨more, z⟩ := J3.base.tbls b ps e
      exact ⟨more, expH_keep frc z⟩
    · obtain ⟨i, e1, e2⟩ := valS_at ev
      obtain ⟨m, _, hlk⟩ := J3.loc
      have hk := kcell y c e
      obtain ⟨u', r', l'⟩ := hlk i y v' e1 e2 (.inr (.inl hk))
      rcases l' with ⟨z, _⟩ | ⟨_, c', ec, hcell⟩
      · have z' : (defScope st).names.lookup y = some .local := z
        rw [hk] at z'
        cases z'
      · have ec' : (cellsFrom (s.heap.objs.size + 1) (defScope st).names []).lookup y = some c' := ec
        rw [e] at ec'
        cases ec'
        exact ⟨u', r', hcell⟩
end
end Cm

set_option linter.all false
/-! a call by a def whose cells are told frozen to the one that is called -/
namespace Cm
open PySem L2 PySem.Spec PyProof.Rows LamX NdefX
/-- H2 is H1 with the cells told frozen -/
structure Frz (cl : List (Str × Addr)) (val : Str → Option V) (H1 H2 : Hp) : Prop where
  inj : InjC cl
  free : ∀ y c, cl.lookup y = some c → H1 c = none
  other : ∀ b, (∀ y, cl.lookup y ≠ some b) → H2 b = H1 b
  cell : ∀ y c v, cl.lookup y = some c → val y = some v → ∃ o, H2 c = some (.frz o (CellO c v))
  only : ∀ y c, cl.lookup y = some c → H2 c = none ∨ ∃ o v, H2 c = some (.frz o (CellO c v))
theorem Frz.keep {cl : List (Str × Addr)} {val : Str → Option V} {H1 H2 : Hp} (z : Frz cl val H1 H2) {b : Addr} {o : HO} (e : H1 b = some o) : H2 b = some o := by
  rw [z.other b fun y e' => by rw [z.free y b e'] at e; cases e]
  exact e
open Classical in
noncomputable def frzH (cl : List (Str × Addr)) (val : Str → Option V) (h : Heap) (H : Hp) : Hp := fun b => if hh : ∃ y, cl.lookup y = some b then
    (match val hh.choose, h.get? b with
      | some v, some o => some (.frz o (CellO b v))
      | _, _ => none) else H b
theorem frzH_cell {cl : List (Str × Addr)} {val : Str → Option V} {h : Heap} {H : Hp} {y : Str} {c : Addr} (i : InjC cl) (e : cl.lookup y = some c) : frzH cl val h H c = (match val y, h.get? c with
      | some v, some o => some (.frz o (CellO c v))
      | _, _ => none) := by
  have hh : ∃ y, cl.lookup y = some c := ⟨y, e⟩
  unfold frzH
  rw [dif_pos hh, i _ _ _ hh.choose_spec e]
theorem frzH_other {cl : List (Str × Addr)} {val : Str → Option V} {h : Heap} {H : Hp} {b : Addr} (n : ∀ y, cl.lookup y ≠ some b) : frzH cl val h H b = H b := by
  unfold frzH
  rw [dif_neg fun ⟨y, e⟩ => n y e]
section
variable {X : Cx} {pins : List (Addr × Obj)} {σ : L2.St} {H : Hp} {s : Shared}
/-- what a slot of a cell's name tells of the cell -/
theorem cell_val (I : Inv X pins σ H s) (hk : ∀ y c, X.env.cells.lookup y = some c → X.env.scope.names.lookup y = some .cell) {y : Str} {c : Addr} {v : V} (e : X.env.cells.lookup y = some c) (ev : valS X.N σ y = some v) : ∃ u, L2.RelV v u ∧ s.heap.IsCell c (some u) := by
  obtain ⟨i, e1, e2⟩ := valS_at ev
  obtain ⟨m, _, hlk⟩ := I.loc
  have k := hk y c e
  obtain ⟨u', r', l'⟩ := hlk i y v e1 e2 (.inr (.inl k))
  rcases l' with ⟨z, _⟩ | ⟨_, c', ec, hcell⟩
  · have z' : X.env.scope.names.lookup y = some .local := z
    rw [k] at z'
    cases z'
  · rw [e] at ec
    cases ec
    exact ⟨u', r', hcell⟩
theorem frz_make (I : Inv X pins σ H s) (hk : ∀ y c, X.env.cells.lookup y = some c → X.env.scope.names.lookup y = some .cell) : Frz X.env.cells (valS X.N σ) H (frzH X.env.cells (valS X.N σ) s.heap H) := by
  refine ⟨I.ok.inj, fun y c e => I.freeC y c e, fun b n => frzH_other n, fun y c v e ev => ?_, fun y c e => ?_⟩
  · obtain ⟨u, _, o, ho, _⟩ := cell_val I hk e ev
    exact ⟨o, by rw [frzH_cell I.ok.inj e, ev, ho]⟩
  · rw [frzH_cell I.ok.inj e]
    cases valS X.N σ y with
    | none => exact .inl rfl
    | some v =>
      cases s.heap.get? c with
      | none => exact .inl rfl
      | some o => exact .inr ⟨o, v, rfl⟩
theorem frz_hok (I : Inv X pins σ H s) (hk : ∀ y c, X.env.cells.lookup y = some c → X.env.scope.names.lookup y = some .cell) : HOk X.prog X.w (frzH X.env.cells (valS X.N σ) s.heap H) s.heap := fun a o e => by
  have z := frz_make I hk
  by_cases hc : ∃ y, X.env.cells.lookup y = some a
  · obtain ⟨y, ey⟩ := hc
    rw [frzH_cell I.ok.inj ey] at e
    cases ev : valS X.N σ y with
    | none => rw [ev] at e; cases e
    | some v =>
      rw [ev] at e
      obtain ⟨u, r, o', ho, hd⟩ := cell_val I hk ey ev
      rw [ho] at e
      obtain rfl := (Option.some.inj e : HO.frz o' (CellO a v) = o)
      exact ⟨ho, cellO_ok r ⟨o', ho, hd⟩⟩
  · rw [frzH_other fun y e' => hc ⟨y, e'⟩] at e
    exact (I.hok a o e).stay (fun c v _ q => q) (fun c q => z.keep q) fun c xs q => z.keep q
end
/-- f(..), the running frame's cells told frozen -/
def tCallF (cl : List (Str × Addr)) (N : List Str) (sp : Sp) (t : TA) : TE := fun σ H Q => t σ H fun vs H1 => ∀ H2, Frz cl (valS N σ) H1 H2 → sp vs H2 (fun v H' => Q v (hideH cl H')) E0
section
variable {X : Cx} {j k : Nat} {x : Str} {sp : Sp} {e : Expr} {es : List Expr} {t : TA} {p pos : Pos}
theorem pe_cF (c : Cl X.prog X.w X.K X.mg X.base k x sp) (hk : ∀ y c, X.env.cells.lookup y = some c → X.env.scope.names.lookup y = some .cell) (hfn : ∀ y, X.fn y = true) (hex : X.ex = []) (hr : Room j X.A) (hkj : k ≤ j) (hg : Gl X x) (ha : PA X (e :: es) t)
    (hdb : (x == ("__debug__" : Str)) = false := by decide) (he : starEach (e :: es) X.env = (false, eval e X.env) :: starEach es X.env := by rfl)
    (hpl : (backTo pos (starEach es X.env)).any (·.1) = false := by rfl) : PE X (.Call (.Name x p) (e :: es) [] pos) (tCallF X.env.cells X.N sp t) := by
  obtain ⟨f, fd, ps, F, hm, kp, b⟩ := c.ex
  refine ⟨fun pins s σ H Q I h => ?_⟩
  refine wpAny_Call_Name_kw (ld_glob I hg hm ?_ hdb)
  refine PySem.W.callWith_K (h₀ := X.base) I.ok.mod.kin kp (thn (ha.run pos pins s σ H _ I h) fun us s1 ⟨vs, H1, I1, r, q⟩ => ⟨I1.kIn, ?_⟩) he hpl
  have z := frz_make I1 hk
  have hq := q _ z
  have hl : us.length = ps.length := by rw [← r.length]; exact F.len _ _ _ _ hq
  have e0 := I1.env0
  have new : ∀ y c, X.env.cells.lookup y = some c → X.s_0.heap.objs.size ≤ c := fun y c e => I1.ok.cab y c (hfn y) e
  have notF : ∀ b ∈ frs X.stack, ∀ y, X.env.cells.lookup y ≠ some b := fun b hb y e => by
    rcases List.mem_cons.mp (I1.stkSub b hb) with q | q
    · exact I1.cne y b e q
    · obtain ⟨_, o, ho, _⟩ := I1.ok.funs.mem q
      exact Nat.lt_irrefl _ (Nat.lt_of_lt_of_le (Heap.lt_size ho) (new y b e))
  have e1 : Env0 X.prog X.w X.K X.mg X.base X.A X.stack s1 (frzH X.env.cells (valS X.N σ) s1.heap H1) := ⟨e0.frames, e0.mod, fun b o e => ⟨(e0.bs b o e).1, by
      rw [z.other b fun y e' => Nat.lt_irrefl _ (Nat.lt_of_lt_of_le (Nat.lt_of_lt_of_le (Heap.lt_size e) I1.ok.bsz) (new y b e'))]
      exact (e0.bs b o e).2⟩, e0.bsz, e0.funs, fun b hb => by
      rw [z.other b (notF b hb)]
      exact e0.frf b hb, frz_hok I1 hk, e0.bare⟩
  have hl2 : (us ++ []).length = ps.length := by rw [List.append_nil]; exact hl
  have bt := b s1 us I1.kIn hl2
  rw [List.append_nil] at bt
  refine wpAny_call (codeAny_mono (F.run X.A X.stack s1 _ ⟨us, []⟩ us vs _ E0 (hr.mono hkj) e1 bt r hq) fun r' s' hq' => ?_)
  cases r' with
  | error e => exact False.elim hq'
  | ok fl =>
    cases fl with
    | next => exact False.elim hq'
    | brk => exact False.elim hq'
    | cont => exact False.elim hq'
    | ret u =>
      obtain ⟨v, H', os, bare, un, hok, rv, q'⟩ := hq'
      have gone : ∀ y c, X.env.cells.lookup y = some c → (H' c = none ∨ ∃ o v, H' c = some (.frz o (CellO c v))) := fun y c e => by
        rcases z.only y c e with n | ⟨o, v, g⟩
        · obtain ⟨w', oc, ho, hd⟩ := I1.cell y c e
          exact .inl (un.free c oc ho n (by intro m; cases m))
        · exact .inr ⟨o, v, un.frzs c o _ g⟩
      have back : ∀ {b : Addr} {o : HO}, H' b = some o → (∀ u v, o ≠ .frz u (CellO b v)) → hideH X.env.cells H' b = some o := fun {b o} e n => by
        rw [hideH_other fun y e' => by
          rcases gone y b e' with g | ⟨u, v, g⟩
          · rw [e] at g; cases g
          · rw [e] at g; exact n u v (Option.some.inj g)]
        exact e
      have isNot : ∀ {b : Addr} {o : HO}, H1 b = some o → ∀ y, X.env.cells.lookup y ≠ some b := fun {b o} e y e' => by
        rw [z.free y b e'] at e
        cases e
      refine I1.after ⟨v, hideH X.env.cells H', os, bare, ⟨fun b o e n hb hx => ?_, fun b o e n hb hx => ?_, fun b o e n hx => ?_, fun b o e hx => un.there b o e hx, fun b xs e => ?_, fun b o u e => ?_, fun b ps e => ?_⟩, fun a o e => ?_, rv, q'⟩
      · by_cases hc : ∃ y, X.env.cells.lookup y = some b
        · obtain ⟨y, ey⟩ := hc
          rcases z.only y b ey with n' | ⟨o', v', g⟩
          · exact un.keep b o e n' hb hx
          · have g2 := un.frzs b o' _ g
            have k1 := (frzC_at (frz_hok I1 hk) g).1
            rw [e] at k1
            cases Option.some.inj k1
            exact (frzC_at hok g2).1
        · exact un.keep b o e (by rw [z.other b fun y e' => hc ⟨y, e'⟩]; exact n) hb hx
      · exact un.slot b o e (by rw [z.other b (notF b hb)]; exact n) hb hx
      · by_cases hc : ∃ y, X.env.cells.lookup y = some b
        · obtain ⟨y, ey⟩ := hc
          exact hideH_cell ey
        · exact hideH_none (un.free b o e (by rw [z.other b fun y e' => hc ⟨y, e'⟩]; exact n) hx)
      · exact back (un.tups b xs (z.keep e)) fun u v q => by cases q
      · have g := un.frzs b o u (z.keep e)
        rw [hideH_other (isNot e)]
        exact g
      · obtain ⟨more, g⟩ := un.tbls b ps (z.keep e)
        exact ⟨more, back g fun u v q => by cases q⟩
      · exact (hok a o (hide_back e)).stay (fun c v _ q => q) (fun c q => back q fun u v q => by cases q) fun c xs q => back q fun u v q => by cases q
end
end Cm

namespace K06
open PySem L2 Cm PyProof.Rows LamX NdefX
/-! what is reached: the least set that has the roots and all that its things name -/
inductive Reach (es : List (Int × Tn)) (ro : List Int) : Int → Prop
  | root {b : Int} (h : b ∈ ro) : Reach es ro b
  | step {a b : Int} {t : Tn} (h : Reach es ro a) (m : (a, t) ∈ es) (n : b ∈ t.nm) : Reach es ro b
theorem reach_sub {es : List (Int × Tn)} {ro : List Int} {S : Int → Prop} (h0 : ∀ b ∈ ro, S b) (hs : ∀ a t b, S a → (a, t) ∈ es → b ∈ t.nm → S b) {b : Int} (r : Reach es ro b) : S b := by
  induction r with
  | root h => exact h0 _ h
  | step _ m n ih => exact hs _ _ _ ih m n
theorem asc_uniq : ∀ {l m : List Int}, l.Pairwise (· < ·) → m.Pairwise (· < ·) → (∀ x, x ∈ l ↔ x ∈ m) → l = m
  | [], [], _, _, _ => rfl
  | [], y :: m, _, _, h => by
    have := (h y).mpr List.mem_cons_self
    cases this
  | x :: l, [], _, _, h => by
    have := (h x).mp List.mem_cons_self
    cases this
  | x :: l, y :: m, hl, hm, h => by
    obtain ⟨l1, l2⟩ := List.pairwise_cons.mp hl
    obtain ⟨m1, m2⟩ := List.pairwise_cons.mp hm
    have exy : x = y := by
      rcases List.mem_cons.mp ((h x).mp List.mem_cons_self) with e | e
      · exact e
      · rcases List.mem_cons.mp ((h y).mpr List.mem_cons_self) with e2 | e2
        · exact e2.symm
        · have a := m1 x e
          have b := l1 y e2
          omega
    subst exy
    congr 1
    refine asc_uniq l2 m2 fun z => ⟨fun q => ?_, fun q => ?_⟩
    · rcases List.mem_cons.mp ((h z).mp (List.mem_cons_of_mem _ q)) with e | e
      · have := l1 z q
        omega
      · exact e
    · rcases List.mem_cons.mp ((h z).mpr (List.mem_cons_of_mem _ q)) with e | e
      · have := m1 z q
        omega
      · exact e
theorem asc_of {l : List Int} (h : l.Pairwise (· ≤ ·)) (n : l.Nodup) : l.Pairwise (· < ·) := by
  refine (List.Pairwise.and h n).imp fun z => ?_
  have h1 := z.1
  have h2 := z.2
  omega
/-- the things as a dict holds them -/
structure Ths (K : PySem.W.Frag) (d : Addr) (es : List (Int × Tn)) (kvs : List (Key × V)) (H : Hp) : Prop where
  at_ : H d = some (.dK kvs)
  ks : kvs.map (·.1) = es.map (fun e => (Sum.inl e.1 : Key))
  vs : DpAll K H (kvs.map (·.2)) (es.map fun e => e.2.enc)
theorem ths_get {K : PySem.W.Frag} {d : Addr} {H : Hp} {b : Int} : ∀ {es : List (Int × Tn)} {kvs : List (Key × V)}, kvs.map (·.1) = es.map (fun e => (Sum.inl e.1 : Key)) → DpAll K H (kvs.map (·.2)) (es.map fun e => e.2.enc) → b ∈ es.map (·.1) →
    ∃ v t, valV kvs (Sum.inl b) = some v ∧ (b, t) ∈ es ∧ Dp K H v t.enc ∧ es.find? (fun e => decide (e.1 = b)) = some (b, t)
  | [], _, _, _, m => by simp at m
  | e :: es, kvs, hk, hv, m => by
    cases kvs with
    | nil => simp at hk
    | cons a kvs =>
      simp only [List.map_cons, List.cons.injEq] at hk
      cases hv with
      | cons h1 h2 =>
        obtain ⟨e1, e2⟩ := e
        by_cases q : e1 = b
        · subst q
          refine ⟨a.2, e2, ?_, List.mem_cons_self, h1, ?_⟩
          · unfold valV
            rw [List.find?_cons_of_pos (by rw [hk.1]; simp)]
            rfl
          · rw [List.find?_cons_of_pos (by simp)]
        · have m' : b ∈ es.map (·.1) := by
            simp only [List.map_cons, List.mem_cons] at m
            rcases m with m | m
            · exact absurd m.symm q
            · exact m
          obtain ⟨v, t, g1, g2, g3, g4⟩ := ths_get (d := d) hk.2 h2 m'
          refine ⟨v, t, ?_, List.mem_cons_of_mem _ g2, g3, ?_⟩
          · unfold valV at g1 ⊢
            rw [List.find?_cons_of_neg (by rw [hk.1]; simpa using q)]
            exact g1
          · rw [List.find?_cons_of_neg (by simpa using q)]
            exact g4
theorem back_hide (cl : List (Str × Addr)) (H : Hp) : backH cl H (hideH cl H) = H := by
  funext b
  by_cases h : ∃ y, cl.lookup y = some b
  · obtain ⟨y, e⟩ := h
    rw [backH_cell e]
  · rw [backH_other fun y e => h ⟨y, e⟩, hideH_other fun y e => h ⟨y, e⟩]
/-- the lambda of `reached` -/
abbrev s_p_reached : Stmt := top 2
abbrev N_p_reached : List Str := ["callee", "handed", "frames", "things"]
theorem sc_p_reached : FnScope N_p_reached ["callee", "handed", "frames", "things"] (defScope s_p_reached) := ⟨rfl, rfl, rfl, by decide +kernel, rfl, by decide +kernel, by decide +kernel⟩
abbrev lamX : Expr := match defBody s_p_reached with
  | [.Return (some (.Call _ [_, _, _, l] _ _)) _] => l
  | _ => .Name "" ⟨0, 0, 0, 0⟩
abbrev lamP : Arguments := match lamX with
  | .Lambda p _ _ _ => p
  | _ => defArgs s_p_reached
abbrev lamB : Expr := match lamX with
  | .Lambda _ b _ _ => b
  | _ => lamX
abbrev lamS : Scope := match lamX with
  | .Lambda _ _ s _ => s
  | _ => defScope s_p_reached
abbrev qL : Str := "reached.<locals>.<lambda>"
abbrev N_lam : List Str := ["birth", "things"]
abbrev frL : List Str := ["things"]
theorem sc_lam : NScope N_lam ["birth"] frL lamS := nscope_by (by decide +kernel)
abbrev lamF (cl : List (Str × Addr)) (c : Addr) : NF := ⟨"<lambda>", qL, lamP, [], lamS, cl, c⟩
def spTh (ws : List V) : Sp := fun vs H Q _ => ∃ (d : Addr) (b : Int) (kvs : List (Key × V)) (v : V), ws = [.ref d] ∧ vs = [.int b] ∧ H d = some (.dK kvs) ∧ valV kvs (Sum.inl b) = some v ∧ Q v H
section
variable {P : Program} {w : World} {K : PySem.W.Frag} {mg : Str → Option Value} {base : Heap}
theorem ok_lam (f : Addr) (cl : List (Str × Addr)) (c : Addr) : LOkF P w K mg base 1 f (lamF cl c) lamB ["birth"] frL spTh := by
  refine lokF_of (k := 0) sc_lam (fun pm ctv us hl => match us, hl with | [_], _ => rfl) (fun ws vs H Q E h => ?_) fun A outer s H vs ws Q E hr hf hc CH h => ?_
  · obtain ⟨d, b, kvs, v, _, rfl, _⟩ := h
    rfl
  · obtain ⟨d, b, kvs, v, rfl, rfl, hd, hv, k⟩ := h
    refine ⟨_, by exact (pe_dget (hu_of hr) (pv 1) (pv 0) (fun _ _ => rfl)), ?_⟩
    have hd' : hideH cl H d = some (.dK kvs) := hideF_keep CH hd fun v u z => by cases z
    refine ⟨_, rfl, _, rfl, d, v, rfl, ?_, fun frc => ?_⟩
    · have g := DGet.k (k := Sum.inl b) hd'
      rw [hv] at g
      exact g
    · rw [show backH (lamF cl c).cl H (hideH (lamF cl c).cl H) = H from back_hide _ _]
      exact k
end
end K06

set_option linter.all false
/-! classes of the text: made by name, == by their own def with either answer; how many unlike texts a list has -/
namespace Cm
open PySem L2 PySem.Spec PyProof.Rows
/-- a class of the text and what its making promises -/
structure MkC (P : Program) (w : World) (K : PySem.W.Frag) (mg : Str → Option Value) (base : Heap) (k : Nat) (x : Str) (C : Addr) (sp : Sp) : Prop where
  ex : ∃ (f : Addr) (fd : FuncData) (ps : List Str), FnOk P w K mg base CX0 k f fd ps sp ∧ L2.Mk K C f ∧ mg x = some (.ref C) ∧ Binds K fd ps []
section
variable {X : Cx} {j k : Nat} {x : Str} {C : Addr} {sp : Sp} {e : Expr} {es : List Expr} {t : TA} {p pos : Pos}
theorem pe_mkC (c : MkC X.prog X.w X.K X.mg X.base k x C sp) (hr : Room j X.A) (hk : k + 1 ≤ j) (hg : Gl X x) (ha : PA X (e :: es) t)
    (hdb : (x == ("__debug__" : Str)) = false := by decide) (he : starEach (e :: es) X.env = (false, eval e X.env) :: starEach es X.env := by rfl)
    (hpl : (backTo pos (starEach es X.env)).any (·.1) = false := by rfl) : PE X (.Call (.Name x p) (e :: es) [] pos) (tMake C sp [] E0 t) := by
  obtain ⟨f, fd, ps, F, M, hm, b⟩ := c.ex
  exact pe_make M F (hr.mono hk) hg hm b .nil pass0 ha hdb he hpl
end
/-- the own == of a class -/
structure EqC (P : Program) (w : World) (K : PySem.W.Frag) (mg : Str → Option Value) (base : Heap) (k : Nat) (C : Addr) (sp : Sp) : Prop where
  ex : ∃ (f : Addr) (fd : FuncData) (ps : List Str), FnOk P w K mg base CX0 k f fd ps sp ∧ PySem.W.findIn K (.ref C) "__eq__" = some (some (.ref f)) ∧ PySem.W.isFn K (.ref f) = true ∧ Binds K fd ps []
def rEqO (C : Addr) (sp : Sp) : R2 := fun x y H Q => ∃ (a b dx dy : Addr) (fs gs : List (Str × V)), x = .ref a ∧ y = .ref b ∧ H a = some (.ins C dx fs) ∧ H b = some (.ins C dy gs) ∧ sp [.ref a, .ref b] H (fun v H' => ∃ k, v = .bl k ∧ Q (.bl k) H') E0
theorem op_eqO {X : Cx} {j k : Nat} {C : Addr} {sp : Sp} (c : EqC X.prog X.w X.K X.mg X.base k C sp) (hr : Room j X.A) (hk : k ≤ j) : OpR X (compareOp .Eq) (rEqO C sp) := by
  obtain ⟨f, fd, ps, F, hs, hf, hb⟩ := c.ex
  intro pins s σ H x y v u Q I rx ry hq
  obtain ⟨a, b, dx, dy, fs, gs, rfl, rfl, ha, hb', hsp⟩ := hq
  cases rx
  cases ry
  obtain ⟨mA, J, _⟩ := ins_get I.hok ha
  obtain ⟨mB, J', _⟩ := ins_get I.hok hb'
  obtain ⟨od, J, _⟩ := J.look
  obtain ⟨od', J', _⟩ := J'.look
  obtain ⟨m, hF⟩ := I.fr
  show wpAny (model X.prog X.w) X.A (richCompare .Eq (.ref a) (.ref b)) (EP X pins σ Q) X.xe s
  refine PySem.W.cmp_K (op := .Eq) (tb := .ref C) hr.units0 hF I.ok.mod.kin J J'.type (by simp [PySem.W.notFirst]) hs hf ?_
  refine wpAny_mono (run_fn (us := [.ref a, .ref b]) (vs := [.ref a, .ref b]) F (hr.mono hk) hb .nil pass0 I (.cons rfl (.cons rfl .nil)) hsp) (fun r s' hz => ?_) fun _ _ z => z
  obtain ⟨z, H', I', rz, kk, ez, q⟩ := hz
  subst ez
  cases rz
  exact ⟨.bl kk, H', I', rfl, q⟩
theorem ko_eqO {X : Cx} {P : Program} {w : World} {K : PySem.W.Frag} {mg : Str → Option Value} {base : Heap} {j k : Nat} {C : Addr} {sp : Sp} (c : EqC P w K mg base k C sp) (hr : Room j X.A) (hk : k ≤ j)
    (h1 : X.prog = P := by rfl) (h2 : X.w = w := by rfl) (h3 : X.K = K := by rfl) (h4 : X.mg = mg := by rfl) (h5 : X.base = base := by rfl) : OpR X (compareOp .Eq) (rEqO C sp) := by
  subst h1 h2 h3 h4 h5
  exact op_eqO c hr hk
/-! ### unlike items, in the order of their first standing -/
def nub {α : Type} [DecidableEq α] (ys : List α) : List α → List α
  | [] => ys
  | x :: r => nub (if x ∈ ys then ys else ys ++ [x]) r
theorem nub_snoc {α : Type} [DecidableEq α] (x : α) : ∀ (l ys : List α), nub ys (l ++ [x]) = if x ∈ nub ys l then nub ys l else nub ys l ++ [x]
  | [], ys => rfl
  | y :: l, ys => nub_snoc x l _
theorem nub_mem {α : Type} [DecidableEq α] (x : α) : ∀ (l ys : List α), x ∈ nub ys l ↔ x ∈ ys ∨ x ∈ l
  | [], ys => by simp [nub]
  | y :: l, ys => by
    show x ∈ nub (if y ∈ ys then ys else ys ++ [y]) l ↔ _
    rw [nub_mem x l]
    by_cases h : y ∈ ys
    · rw [if_pos h, List.mem_cons]
      constructor
      · rintro (q | q)
        · exact .inl q
        · exact .inr (.inr q)
      · rintro (q | rfl | q)
        · exact .inl q
        · exact .inl h
        · exact .inr q
    · rw [if_neg h, List.mem_append, List.mem_singleton, List.mem_cons, or_assoc]
theorem nub_map {α β : Type} [DecidableEq α] [DecidableEq β] (f : α → β) (P : α → Prop) (hf : ∀ a b, P a → P b → f a = f b → a = b) : ∀ (l ys : List α), (∀ a ∈ ys, P a) → (∀ a ∈ l, P a) → nub (ys.map f) (l.map f) = (nub ys l).map f
  | [], _, _, _ => rfl
  | x :: l, ys, h1, h2 => by
    show nub (if f x ∈ ys.map f then ys.map f else ys.map f ++ [f x]) (l.map f) = (nub (if x ∈ ys then ys else ys ++ [x]) l).map f
    have hx := h2 x List.mem_cons_self
    have hl : ∀ a ∈ l, P a := fun a m => h2 a (List.mem_cons_of_mem _ m)
    by_cases h : x ∈ ys
    · rw [if_pos h, if_pos (List.mem_map_of_mem h)]
      exact nub_map f P hf l ys h1 hl
    · have hn : ¬ f x ∈ ys.map f := fun m => by
        obtain ⟨y, hy, e⟩ := List.mem_map.mp m
        exact h (hf y x (h1 y hy) hx e ▸ hy)
      rw [if_neg h, if_neg hn, ← nub_map f P hf l (ys ++ [x]) (fun a m => by
        rcases List.mem_append.mp m with m | m
        · exact h1 a m
        · rw [List.mem_singleton] at m
          subst m
          exact hx) hl, List.map_append]
      rfl
theorem nub_len {α : Type} [DecidableEq α] : ∀ (l ys : List α), (nub ys l).length ≤ ys.length + l.length
  | [], _ => Nat.le_refl _
  | x :: l, ys => by
    have h := nub_len l (if x ∈ ys then ys else ys ++ [x])
    show (nub (if x ∈ ys then ys else ys ++ [x]) l).length ≤ _
    by_cases q : x ∈ ys
    · rw [if_pos q] at h ⊢
      rw [List.length_cons]
      omega
    · rw [if_neg q, List.length_append] at h
      rw [if_neg q, List.length_cons]
      have : [x].length = 1 := rfl
      omega
theorem take_snoc {α : Type} {l : List α} {i : Nat} {x : α} (h : l[i]? = some x) : l.take (i + 1) = l.take i ++ [x] := by
  rw [List.take_add_one, h]
  rfl
theorem mem_step {α : Type} [DecidableEq α] (x z : α) (l : List α) : (decide (z ∈ l) || decide (z = x)) = decide (z ∈ if x ∈ l then l else l ++ [x]) := by
  by_cases q : x ∈ l
  · rw [if_pos q]
    by_cases e : z = x
    · subst e
      simp [q]
    · simp [e]
  · rw [if_neg q]
    simp [List.mem_append]
theorem len_step {α : Type} [DecidableEq α] (x : α) (l : List α) : (if decide (x ∈ l) = true then l.length else l.length + 1) = (if x ∈ l then l else l ++ [x]).length := by
  by_cases q : x ∈ l
  · rw [if_pos q, if_pos (decide_eq_true q)]
  · rw [if_neg q, if_neg (by simp [q]), List.length_append]
    rfl
/-! ### set(texts): any number of texts, some of them alike -/
section
variable {prog : Program} {w : World} {A : Around} {R : Result → Shared → Prop} {I : Addr} {fp wr : List Addr} {G : Array GenState → Array GenState → Prop} {n : Nat} {P : Nat → Value → Prop} {St : Nat → Shared → Prop}
theorem loop_texts (W : WalksS prog w A.in1 I fp wr G n P St) (S : Addr) (hSf : S ∉ fp) (xs : List Str) (hsz : xs.length = n) (hn1 : n ≤ 4000)
    (hval : ∀ i v, P i v → ∃ t, v = .str (xs.getD i Str.empty) t) :
    ∀ (k i : Nat) (s : Shared), n - i = k → i ≤ n → St i s →
      s.heap.SetOf (PySem.strKind prog w) S (fun z => decide (z ∈ nub [] (xs.take i))) (nub [] (xs.take i)).length →
      (∀ s', Moved (S :: wr) G s s' → s'.heap.SetOf (PySem.strKind prog w) S (fun z => decide (z ∈ nub [] (xs.take n))) (nub [] (xs.take n)).length → R (.ok (.ret .none)) s') →
      codeAny (model prog w) A (.builtin "set.update.loop" ⟨[.ref S, .ref I], []⟩) R s := by
  have hSw : S ∉ wr := fun h => hSf (W.sub _ h)
  have hsub : ∀ b ∈ wr, b ∈ S :: wr := fun b hb => List.mem_cons_of_mem _ hb
  have keep : ∀ {i : Nat} {s s' : Shared}, Moved wr G s s' → s.heap.SetOf (PySem.strKind prog w) S (fun z => decide (z ∈ nub [] (xs.take i))) (nub [] (xs.take i)).length → s'.heap.SetOf (PySem.strKind prog w) S (fun z => decide (z ∈ nub [] (xs.take i))) (nub [] (xs.take i)).length := fun hm hS => by
    obtain ⟨o, es, ep, tb, ho, more⟩ := hS
    exact ⟨o, es, ep, tb, hm.heap S _ hSw ho, more⟩
  intro k
  induction k with
  | zero =>
    intro i s hk hi hst hS hR
    obtain rfl : i = n := by omega
    refine codeAny_builtin PyProof.Rows.F.entry_set_update_loop ?_
    rw [Around.under_plainId PyProof.Rows.F.plain_set_update_loop _]
    show wpAny _ A.in1 (pyNext (.ref I) >>= _) _ _ s
    refine wpAny_bind (W.done s _ _ hst fun s' hm => ?_)
    show wpAny _ A.in1 (ret Value.none) _ _ s'
    exact wpAny_pure (hR s' (hm.mono hsub) (keep hm hS))
  | succ k ih =>
    intro i s hk hi hst hS hR
    have hlt : i < n := by omega
    have hx : xs[i]? = some (xs.getD i Str.empty) := by
      rw [List.getD_eq_getElem?_getD, List.getElem?_eq_getElem (by omega)]
      rfl
    refine codeAny_builtin PyProof.Rows.F.entry_set_update_loop ?_
    rw [Around.under_plainId PyProof.Rows.F.plain_set_update_loop _]
    show wpAny _ A.in1 (pyNext (.ref I) >>= _) _ _ s
    refine wpAny_bind (W.item i s _ _ hlt hst fun v s' hP hst' hm => ?_)
    obtain ⟨t, rfl⟩ := hval i v hP
    have hS' := keep hm hS
    have hl := nub_len (xs.take i) ([] : List Str)
    rw [List.length_take, List.length_nil] at hl
    show wpAny _ A.in1 (holding [Value.str (xs.getD i Str.empty) t] (setAdd S (.str (xs.getD i Str.empty) t)) >>= _) _ _ s'
    refine wpAny_bind (wpAny_holding ?_)
    unfold setAdd
    refine wpAny_holding ?_
    refine wpAny_bind ((PySem.strKind prog w).pyHash (k := xs.getD i Str.empty) (strKind_is _ _ _ _) ?_)
    refine wpAny_setAddHashed_of (knd := PySem.strKind prog w) (s := { s' with toks := s'.toks + 1 }) (strKind_is _ _ _ _) rfl hS' (by unfold scanBound; omega) fun h' hsb hS2 => ?_
    have hSi : h'.SetOf (PySem.strKind prog w) S (fun z => decide (z ∈ nub [] (xs.take (i + 1)))) (nub [] (xs.take (i + 1))).length := by
      rw [take_snoc hx, nub_snoc]
      refine SetOf_congr hS2 (fun z => ?_) ?_
      · exact mem_step (xs.getD i Str.empty) z _
      · exact len_step (xs.getD i Str.empty) _
    refine wpAny_pure ⟨plainId_quiet PyProof.Rows.F.plain_set_update_loop _, ih (i + 1) _ (by omega) hlt (W.frame _ s' _ _ hst' (Nat.le_succ _) fun b hb o e => ?_) hSi fun s'' hm'' hS'' => ?_⟩
    · rw [hsb.2 b (fun h : b = S => hSf (by rw [← h]; exact hb))]; exact e
    · refine hR s'' (Moved.trans W.gtrans ((hm.mono hsub).then_heap (Nat.le_succ _) fun b o hb e => ?_) hm'') hS''
      rw [hsb.2 b (fun h : b = S => hb (by rw [h]; exact List.mem_cons_self))]; exact e
end
section
variable {prog : Program} {w : World} {A : Around} {E : Value → Shared → Prop} {s : Shared}
/-- an empty set, as it is laid -/
abbrev set0 (led : Bool) : Obj := { cls := .type "set", dict := none, data := .set #[] 0 (.fresh 0 0 led) }
/-- the unlike texts stand in the set at the old end of the heap, all else is kept -/
abbrev SetGot (prog : Program) (w : World) (s : Shared) (xs : List Str) (h' : Heap) : Prop :=
  h'.SetOf (PySem.strKind prog w) s.heap.objs.size (fun z => decide (z ∈ nub [] xs)) (nub [] xs).length ∧ ∀ b o, b < s.heap.objs.size → s.heap.get? b = some o → h'.get? b = some o
theorem set_fill {l : Addr} {items : Array Value} {xs : List Str} {led : Bool} {T : Result → Shared → Prop} (hh : A.handled = none) (hl : s.heap.IsList l items) (hi : StrsAre items.toList xs) (hn : xs.length ≤ 4000)
    (h : ∀ (h' : Heap) (tk : Nat), SetGot prog w s xs h' → T (.ok (.ret .none)) { s with heap := h', toks := tk }) :
    codeAny (model prog w) A (.builtin "set.update.loop" ⟨[.ref s.heap.objs.size, .ref (s.heap.push (set0 led)).objs.size], []⟩) T
      { s with heap := (s.heap.push (set0 led)).push { cls := .type "list_iterator", data := .fields #[.ref l, .int 0 0] } } := by
  have hS : (s.heap.push (set0 led)).get? s.heap.objs.size = some (set0 led) := Heap.get?_push_size _ rfl
  have hlS : l < s.heap.objs.size := let ⟨_, e, _⟩ := hl; Heap.lt_size e
  have e1 : (s.heap.push (set0 led)).objs.size = s.heap.objs.size + 1 := Heap.size_push _ _
  have hneI : l ≠ (s.heap.push (set0 led)).objs.size := by
    rw [e1]
    exact Nat.ne_of_lt (Nat.lt_succ_of_lt hlS)
  have hSf : s.heap.objs.size ∉ [(s.heap.push (set0 led)).objs.size, l] := by
    rw [e1]
    intro m
    rcases List.mem_cons.mp m with m | m
    · exact absurd m (Nat.ne_of_lt (Nat.lt_succ_self _))
    · exact absurd (List.mem_singleton.mp m) (Nat.ne_of_gt hlS)
  have hl1 : (s.heap.push (set0 led)).IsList l items := hl.push _
  have hsz : xs.length = items.size := by rw [← StrsAre.len_eq hi, Array.length_toList]
  have hval : ∀ (i : Nat) (v : Value), items[i]? = some v → ∃ t, v = .str (xs.getD i Str.empty) t := fun i v hv => SS.strs_at hi i v (by rw [Array.getElem?_toList]; exact hv)
  refine loop_texts ((Walks.list (show A.in1.handled = none by simp [hh]) _ l hneI items).toS) s.heap.objs.size hSf xs hsz (by omega) hval (items.size - 0) 0 _ (by omega) (Nat.zero_le _) ⟨⟨_, Heap.get?_push_size _ rfl, rfl, rfl⟩, (hl1.push _)⟩ ?_ fun s' hm hS' => ?_
  · exact SetOf_congr ((setObjOf_fresh (knd := PySem.strKind prog w) led).setOf (Heap.get?_push_of_some _ hS) (by unfold scanBound; omega)) (fun _ => rfl) rfl
  · obtain ⟨h', g', d', tk', os'⟩ := s'
    obtain rfl : g' = s.gens := hm.gens
    obtain rfl : d' = s.drawn := hm.drawn
    obtain rfl : os' = s.os := hm.os
    rw [← hsz, List.take_length] at hS'
    refine h h' tk' ⟨hS', fun b o hb e => hm.heap b o ?_ (Heap.get?_push_of_some _ (Heap.get?_push_of_some _ e))⟩
    intro m
    rcases List.mem_cons.mp m with m | m
    · exact absurd m (Nat.ne_of_lt hb)
    · have := List.mem_singleton.mp m
      rw [e1] at this
      exact absurd this (Nat.ne_of_lt (Nat.lt_succ_of_lt hb))
set_option maxHeartbeats 8000000 in
theorem call_set_texts {l : Addr} {items : Array Value} {xs : List Str} {Q : Value → Shared → Prop} (hh : A.handled = none) (hl : s.heap.IsList l items) (hi : StrsAre items.toList xs) (hn : xs.length ≤ 4000)
    (h : ∀ (h' : Heap) (tk : Nat), SetGot prog w s xs h' → Q (.ref s.heap.objs.size) { s with heap := h', toks := tk }) :
    wpAny (model prog w) A (call (.type "set") [.ref l]) Q E s := by
  obtain ⟨c, tl, hmro⟩ := PySem.F.called_set.mro
  have hmade := PySem.F.called_set.made
  have hsub := PySem.F.called_set.sub
  refine wpAny_call (codeAny_of_tree ?_)
  show wpAny _ _ (callAny (.type "set") _) _ _ _
  refine wpAny_pure ⟨Code.quiet_builtin _ (by decide +kernel), codeAny_builtin PySem.F.entry_type_call ?_⟩
  rw [Around.under_plain (weight_type_call_type "set" [.ref l] []) rfl]
  have h1 := PySem.F.called_set.notType
  have h2 := PySem.F.called_set.canCreate
  have hct := PySem.F.typeCall_set_1 (.ref l)
  repeat (any_goals (first | assumption | wp_step))
  refine codeAny_mono (code_set_new_1 (.ref l) (E := E) (Q₁ := fun obj s₁ => ∃ led : Bool, obj = .ref s.heap.objs.size ∧ s₁ = { s with heap := s.heap.push (set0 led) }) fun led => ⟨led, rfl, rfl⟩) fun r s₁ hr => ?_
  cases r with
  | error e => exact hr
  | ok fl =>
    cases fl with
    | ret obj =>
      obtain ⟨led, rfl, rfl⟩ := hr
      have hS : (s.heap.push (set0 led)).get? s.heap.objs.size = some (set0 led) := Heap.get?_push_size _ rfl
      have hT : Shared.TypeIs { s with heap := s.heap.push (set0 led) } (.ref s.heap.objs.size) "set" := ⟨_, hS, rfl⟩
      have hli := PySem.F.called_set.init.lookup
      have hbi := PySem.F.called_set.init.bind (.ref s.heap.objs.size)
      repeat (any_goals (first | assumption | wp_step))
      refine codeAny_mono (codeAny_call_builtin (R := wants (fun r s₂ => r = .none ∧ ∃ h' tk, s₂ = { s with heap := h', toks := tk } ∧ SetGot prog w s xs h') E) PySem.F.called_set.init.plain PySem.F.entry_set_init (check_set_init_1 hT ?_)) fun r₂ s₂ hr₂ => ?_
      · obtain ⟨ol, hol, hcl, nl, hdl⟩ := id hl
        obtain ⟨ocls, odict, odata, oslots⟩ := ol
        simp only at hcl hdl
        subst hcl; subst hdl
        have hol' : (s.heap.push (set0 led)).get? l = some { cls := .type "list", dict := odict, data := .seq items nl, slots := oslots } := Heap.get?_push_of_some _ hol
        have hsls := PySem.F.sub_list_set
        have hslf := PySem.F.sub_list_frozenset
        have hne : (Value.type "list" == Value.type "dict") = false := by decide
        have hl1 : (s.heap.push (set0 led)).IsList l items := ⟨_, hol', rfl, nl, rfl⟩
        unfold Builtin.«set.__init__» noKeywords Builtin.Frozenset.updateFrom
        generalize hPI : pyIter = PI
        wp_walk
        subst hPI
        refine wpAny_pyIter_list hl1 ?_
        refine wpAny_bind (wpAny_runValue ?_)
        refine set_fill (led := led) (by simp [hh]) hl hi hn fun h' tk got => ?_
        show wpAny _ _ _ _ _ _
        refine wpAny_pure ?_
        show wpAny _ _ (ret Value.none) _ _ _
        exact wpAny_pure ⟨rfl, h', tk, rfl, got⟩
      · cases r₂ with
        | error e => exact hr₂
        | ok fl₂ =>
          cases fl₂ with
          | ret r =>
            obtain ⟨rfl, h', tk, rfl, got⟩ := hr₂
            repeat (any_goals (first | assumption | wp_step))
            exact h _ _ got
          | _ => exact hr₂.elim
    | _ => exact hr.elim
end
/-- len(set(texts)) -/
def tLenTexts (K : PySem.W.Frag) (ta : TE) : TE := fun σ H Q => ta σ H fun x H1 => ∃ (l : Addr) (xs : List Str), x = .ref l ∧ SqL K H1 l (xs.map V.str) ∧ xs.length ≤ 4000 ∧ Q (.int (nub [] xs).length) H1
theorem pe_lenTexts {X : Cx} {a : Expr} {ta : TE} {p p2 q pos : Pos} (hg : Gl X "len") (hm : X.mg "len" = none) (hg2 : Gl X "set") (hm2 : X.mg "set" = none) (ha : PE X a ta) (hc : X.calm = true := by rfl)
    (na : starEach [a] X.env = (false, eval a X.env) :: starEach [] X.env := by rfl) : PE X (.Call (.Name "len" p) [.Call (.Name "set" p2) [a] [] q] [] pos) (tLenTexts X.K ta) := by
  refine ⟨fun pins s σ H Q I h => ?_⟩
  refine Call_ (ld_blt I hg hm boot_len ?_)
  refine callWith_builtin1 (args_cons ?_ rfl) rfl rfl
  refine Call_ (ld_blt I hg2 hm2 boot_set ?_)
  refine callWith_type1 (args_cons (thn (ha.run pins s σ H _ I h) fun v s1 ⟨x, H1, I1, r1, q1⟩ => args_nil ?_) na) na rfl
  obtain ⟨l, xs, rfl, hq, hn, q1⟩ := q1
  cases r1
  obtain ⟨its, r, pl, hz⟩ := I1.list hq
  refine call_set_texts (I1.ok.hd hc) pl.isList (by simpa using strsAre_of r) hn fun h' tk ⟨hS, hk⟩ => ?_
  refine args_nil ?_
  obtain ⟨o, es, ep, t, ho, hex, hd, _, _, _, hf, hlen⟩ := hS
  have I2 : Inv X pins σ H1 { s1 with heap := h', toks := tk } := I1.kept fun b o e => hk b o (Heap.lt_size e) e
  have hl := nub_len xs ([] : List Str)
  rw [List.length_nil] at hl
  refine call_len_set ho hex hd hf (by rw [hlen] <;> omega) ⟨.int (nub [] xs).length, H1, I2.tok _, ⟨_, by rw [hlen]⟩, q1⟩
end Cm

namespace K06
open PySem L2 Cm PyProof.Rows LamX NdefX
def tOf (es : List (Int × Tn)) (b : Int) : PyData := ((es.find? fun e => decide (e.1 = b)).map fun e => e.2.enc).getD .none
structure Wld (es : List (Int × Tn)) (ro : List Int) : Prop where
  nd : (es.map (·.1)).Nodup
  len : es.length ≤ 60
  sz : ∀ e ∈ es, e.2.sz
  cl : ∀ e ∈ es, ∀ b ∈ e.2.nm, b ∈ es.map (·.1)
  ro : ∀ b ∈ ro, b ∈ es.map (·.1)
def spBy (K : PySem.W.Frag) : Sp := fun vs H Q _ => ∃ (cv : V) (hd fr f : Addr) (c : W) (ws : List W) (us : List V) (fs : List Int) (cl : List (Str × Addr)) (cc d : Addr) (es : List (Int × Tn)) (kvs : List (Key × V)), vs = [cv, .ref hd, .ref fr, .ref f] ∧ Dp K H cv c.enc ∧ SqT K H hd us ∧ DpAll K H us (ws.map W.enc) ∧ ws.length ≤ 100 ∧
  SqT K H fr (fs.map V.int) ∧ fs.length ≤ 100 ∧ H f = some (LamO f (lamF cl cc) lamB) ∧ H cc = some (CodeO cc qL) ∧ CellsF cl frL [.ref d] H ∧ Ths K d es kvs H ∧ Wld es (c.refs ++ ws.flatMap W.refs ++ fs) ∧
  ∀ (r : Addr) (S : List Int) (H' : Hp), Same H H' → S.Pairwise (· < ·) → (∀ b, b ∈ S ↔ Reach es (c.refs ++ ws.flatMap W.refs ++ fs) b) → Dp K H' (.ref r) (.tuple (S.map fun b => .tuple [.int b, tOf es b])) → Q (.ref r) H'
theorem tOf_at {es : List (Int × Tn)} {b : Int} {t : Tn} (e : es.find? (fun e => decide (e.1 = b)) = some (b, t)) : tOf es b = t.enc := by
  unfold tOf
  rw [e]
  rfl
theorem flat_tOf (es : List (Int × Tn)) (b : Int) : flatD (tOf es b) = true := by
  unfold tOf
  cases es.find? (fun e => decide (e.1 = b)) with
  | none => rfl
  | some e => exact flat_Tn _
theorem sub_len : ∀ {F G : List Int}, F.Nodup → (∀ b ∈ F, b ∈ G) → F.length ≤ G.length
  | [], _, _, _ => Nat.zero_le _
  | a :: F, G, n, h => by
    have ha := h a List.mem_cons_self
    obtain ⟨n1, n2⟩ := List.nodup_cons.mp n
    have ih := sub_len (F := F) (G := G.erase a) n2 fun b m => (List.mem_erase_of_ne fun z => n1 (by rw [← z]; exact m)).mpr (h b (List.mem_cons_of_mem _ m))
    rw [List.length_erase_of_mem ha] at ih
    have := List.length_pos_of_mem ha
    rw [List.length_cons]
    omega
theorem dk_get {K : PySem.W.Frag} {H : Hp} {f : Int → PyData} {b : Int} : ∀ {F : List Int} {kv : List (Key × V)}, kv.map (·.1) = F.map (fun b => (Sum.inl b : Key)) → DpAll K H (kv.map (·.2)) (F.map f) → b ∈ F → ∃ v, valV kv (Sum.inl b) = some v ∧ Dp K H v (f b)
  | [], _, _, _, m => by cases m
  | a :: F, kv, hk, hv, m => by
    cases kv with
    | nil => simp at hk
    | cons p kv =>
      simp only [List.map_cons, List.cons.injEq] at hk
      cases hv with
      | cons h1 h2 =>
        by_cases q : a = b
        · subst q
          refine ⟨p.2, ?_, h1⟩
          unfold valV
          rw [List.find?_cons_of_pos (by rw [hk.1]; simp)]
          rfl
        · rcases List.mem_cons.mp m with e | m
          · exact absurd e.symm q
          obtain ⟨v, g1, g2⟩ := dk_get hk.2 h2 m
          refine ⟨v, ?_, g2⟩
          unfold valV at g1 ⊢
          rw [List.find?_cons_of_neg (by rw [hk.1]; simpa using q)]
          exact g1
theorem range_out (F : List Int) (ls : List Int) : (List.range ls.length).filterMap (fun i => (ls[i]?).bind fun x => if decide (x ∈ F) = true then none else some (PyData.int x)) = (ls.filter fun x => !decide (x ∈ F)).map PyData.int := by
  induction ls with
  | nil => rfl
  | cons a l ih =>
    rw [List.length_cons, List.range_succ_eq_map, List.filterMap_cons, List.filter_cons, List.filterMap_map]
    by_cases z : a ∈ F
    · simp only [List.getElem?_cons_zero, Option.bind_some, decide_eq_true z, if_pos, Bool.not_true]
      exact ih
    · simp only [List.getElem?_cons_zero, Option.bind_some, decide_eq_false z, Bool.not_false]
      exact congrArg _ ih
theorem cellsF_same {cl : List (Str × Addr)} {fr : List Str} {ws : List V} {H H' : Hp} (C : CellsF cl fr ws H) (s : Same H H') : CellsF cl fr ws H' := ⟨C.len, C.inj, C.all, fun i y e => by
  obtain ⟨c, v, o, e1, e2, e3⟩ := C.has i y e
  exact ⟨c, v, o, e1, e2, s _ _ e3⟩⟩
theorem one_thing : ∀ {es : List (Int × Tn)} {b : Int} {t t' : Tn}, (es.map (·.1)).Nodup → (b, t) ∈ es → (b, t') ∈ es → t = t'
  | e :: es, b, t, t', n, h, h' => by
    rw [List.map_cons, List.nodup_cons] at n
    rcases List.mem_cons.mp h with e1 | m <;> rcases List.mem_cons.mp h' with e2 | m'
    · rw [← e1] at e2
      exact (Prod.mk.inj e2).2.symm
    · exact absurd (List.mem_map.mpr ⟨(b, t'), m', by rw [← e1]⟩) n.1
    · exact absurd (List.mem_map.mpr ⟨(b, t), m, by rw [← e2]⟩) n.1
    · exact one_thing n.2 m m'
theorem dk_no {b : Int} {F : List Int} {kv : List (Key × V)} (hk : kv.map (·.1) = F.map (fun b => (Sum.inl b : Key))) (n : ¬ b ∈ F) : (∀ p ∈ kv, p.1 ≠ (Sum.inl b : Key)) ∧ valV kv (Sum.inl b) = none := by
  have h : ∀ p ∈ kv, p.1 ≠ (Sum.inl b : Key) := fun p m z => by
    have : p.1 ∈ kv.map (·.1) := List.mem_map.mpr ⟨p, m, rfl⟩
    rw [hk, z] at this
    obtain ⟨x, mx, ex⟩ := List.mem_map.mp this
    cases ex
    exact n mx
  refine ⟨h, ?_⟩
  unfold valV
  rw [List.find?_eq_none.mpr fun p m => by simpa using h p m]
  rfl
section
variable {P : Program} {w : World} {K : PySem.W.Frag} {mg : Str → Option Value} {base : Heap}
abbrev s_p_reached_by : Stmt := top 3
abbrev N_p_reached_by : List Str := ["callee", "handed", "frames", "thing_of", "found", "waiting", "birth", "named"]
theorem sc_p_reached_by : FnScope N_p_reached_by ["callee", "handed", "frames", "thing_of"] (defScope s_p_reached_by) := ⟨rfl, rfl, rfl, by decide +kernel, rfl, by decide +kernel, by decide +kernel⟩
theorem ok_reached_by (T : Txt mg) (c_p_births_in : Cl P w K mg base 1 "births_in" (spBi K)) (c_p_births_of : Cl P w K mg base 2 "births_of" (spBo K)) (D : At K mg "reached_by" s_p_reached_by ["callee", "handed", "frames", "thing_of"]) : Cl P w K mg base 3 "reached_by" (spBy K) := by
  refine cl_of (k := 2) D sc_p_reached_by (fun vs H Q E h => ?_) fun f cdv A outer s H vs Q E hr h => ?_
  · obtain ⟨cv, hd, fr, f, c, ws, us, fs, cl, cc, d, es, kvs, rfl, _⟩ := h
    rfl
  · obtain ⟨cv, hd, fr, g, c, ws, us, fs, cl, cc, d, es, kvs, rfl, hcv, hhd, hus, hwl, hfr, hfl, hg, hcc, CF, th, wd, k⟩ := h
    have hu := hu_of hr
    refine ⟨_, (pss_cons (ps_set (i := 4) sc_p_reached_by.nd rfl (Or.inr rfl) pe_dnewK)
      (pss_cons (ps_set (i := 5) sc_p_reached_by.nd rfl (Or.inl rfl) (pe_op op_cat (pe_op op_cat (pe_c c_p_births_in hr (by decide) (by rfl) (pa_cons (pe_tup (pa_cons (pv 0) pa_nil)) pa_nil)) (pe_c c_p_births_in hr (by decide) (by rfl) (pa_cons (pv 1) pa_nil))) (pe_callTy call_list_of (by rfl) T.list (by decide +kernel) (pa_cons (pv 2) pa_nil))))
      (pss_cons (ps_while PassesOwn.never (pt_truth (pv 5) (by intro _; rfl))
        (pss_cons (ps_set (i := 6) sc_p_reached_by.nd rfl (Or.inl rfl) (pe_bm0 PySem.F.plainAttrs_list PySem.F.slot_list_pop PySem.F.type_list_pop mt_pop (pv 5)))
        (pss_one (ps_if (pt_cmp (pc_dnotin hu (pv 6) (pv 4)))
          (pss_cons (ps_dput hu (pv 4) (pv 6) (pe_callLF (i := 3) (fun f cl c => ok_lam f cl c) hr (by decide) rfl (Or.inl rfl) (pa_cons (pv 6) pa_nil)) rfl)
          (pss_one (ps_expr (pe_bm PySem.F.plainAttrs_list PySem.F.slot_list_extend PySem.F.type_list_extend mt_extend (pv 5) (pa_cons (pe_lc (own := [("named", 7)]) rfl sc_p_reached_by.nd (pi_list (pe_c c_p_births_of hr (by decide) (by rfl) (pa_cons (pe_dget hu (pv 4) (pv 6) (fun _ _ => rfl)) pa_nil))) (blkOk_by (N := N_p_reached_by) (sc := defScope s_p_reached_by) (by decide +kernel))
      (fun _ _ _ _ _ => (pg_name (i := 7) sc_p_reached_by.nd rfl (Or.inl rfl)))
      (fun _ _ _ _ _ => (pts_one (pt_cmp (pc_dnotin hu (pv 7) (pv 4)))))
      (fun _ _ _ _ _ => (pv 7))) pa_nil)))))
          pss_nil))))
      (pss_one (ps_ret (pe_tupleOf (by rfl) T.tuple (pe_lc (own := [("birth", 6)]) rfl sc_p_reached_by.nd (pi_list (pe_callB (call_sortedDI rfl) (by rfl) T.sorted (by decide +kernel) (pa_cons (pv 4) pa_nil))) (blkOk_by (N := N_p_reached_by) (sc := defScope s_p_reached_by) (by decide +kernel))
      (fun _ _ _ _ _ => (pg_name (i := 6) sc_p_reached_by.nd rfl (Or.inl rfl)))
      (fun _ _ _ _ _ => pts_nil)
      (fun _ _ _ _ _ => (pe_tup (pa_cons (pv 6) (pa_cons (pe_dget hu (pv 4) (pv 6) (fun _ _ => rfl)) pa_nil))))))))))), ?_⟩
    intro D0 hD0
    have s1 := same_new (o := .dK []) hD0
    have e1 : upd H D0 (.dK []) D0 = some (.dK []) := upd_same
    generalize upd H D0 (.dK []) = H1 at *
    refine ⟨_, rfl, by show 1 ≤ sizeLine; decide, fun p hp => ?_⟩
    have s2 := s1.trans (same_new (o := .tup [cv]) hp)
    have ep : upd H1 p (.tup [cv]) p = some (.tup [cv]) := upd_same
    have e2 := (same_new (o := .tup [cv]) hp) _ _ e1
    generalize upd H1 p (.tup [cv]) = H2 at *
    refine ⟨p, [cv], [c], rfl, .inl (.inl ep), .cons (dp_same s2 _ _ hcv) .nil, by show 1 ≤ 1000; decide, fun r1 H3 s3 _ f3 => ?_⟩
    have s13 := s2.trans s3
    refine ⟨_, rfl, hd, us, ws, rfl, sqt_same s13 hhd, dps_same s13 _ _ hus, by omega, fun r2 H4 s4 _ f4 => ?_⟩
    have s14 := s13.trans s4
    have l1 : ([c].flatMap W.refs).length ≤ 1 := refs_len [c]
    have l2 := refs_len ws
    refine ⟨r1, r2, _, _, rfl, rfl, s4 _ _ f3, f4, Nat.le_trans (show (([c].flatMap W.refs).map V.int).length + ((ws.flatMap W.refs).map V.int).length ≤ 200 by rw [List.length_map, List.length_map]; omega) (by decide), fun q1 hq1 => ?_⟩
    have s15 := s14.trans (same_new (o := .lst (([c].flatMap W.refs).map V.int ++ (ws.flatMap W.refs).map V.int)) hq1)
    have f5 : upd H4 q1 (.lst (([c].flatMap W.refs).map V.int ++ (ws.flatMap W.refs).map V.int)) q1 = some (.lst (([c].flatMap W.refs).map V.int ++ (ws.flatMap W.refs).map V.int)) := upd_same
    have e5 := (same_new (o := .lst (([c].flatMap W.refs).map V.int ++ (ws.flatMap W.refs).map V.int)) hq1) _ _ (s4 _ _ (s3 _ _ e2))
    generalize upd H4 q1 (.lst (([c].flatMap W.refs).map V.int ++ (ws.flatMap W.refs).map V.int)) = H5 at *
    refine ⟨_, rfl, fr, _, rfl, .inr (sqt_same s15 hfr), fun l hl => ?_⟩
    have s16 := s15.trans (same_new (o := .lst (fs.map V.int)) hl)
    have f6 := (same_new (o := .lst (fs.map V.int)) hl) _ _ f5
    have e6 := (same_new (o := .lst (fs.map V.int)) hl) _ _ e5
    have g6 : upd H5 l (.lst (fs.map V.int)) l = some (.lst (fs.map V.int)) := upd_same
    generalize upd H5 l (.lst (fs.map V.int)) = H6 at *
    refine ⟨q1, l, _, _, rfl, rfl, f6, g6, Nat.le_trans (show (([c].flatMap W.refs).map V.int ++ (ws.flatMap W.refs).map V.int).length + (fs.map V.int).length ≤ 400 by rw [List.length_append, List.length_map, List.length_map, List.length_map]; omega) (by decide), fun Wt hWt => ?_⟩
    have nW : H Wt = none := free_of s16 hWt
    have s17 := s16.trans (same_new (o := .lst ((([c].flatMap W.refs).map V.int ++ (ws.flatMap W.refs).map V.int) ++ fs.map V.int)) hWt)
    have e7 := (same_new (o := .lst ((([c].flatMap W.refs).map V.int ++ (ws.flatMap W.refs).map V.int) ++ fs.map V.int)) hWt) _ _ e6
    have f7 : upd H6 Wt (.lst ((([c].flatMap W.refs).map V.int ++ (ws.flatMap W.refs).map V.int) ++ fs.map V.int)) Wt = some (.lst ((c.refs ++ ws.flatMap W.refs ++ fs).map V.int)) := by
      rw [upd_same, List.map_append, List.map_append]
      simp
    have neD : D0 ≠ Wt := ne_of_none e6 hWt
    generalize upd H6 Wt (.lst ((([c].flatMap W.refs).map V.int ++ (ws.flatMap W.refs).map V.int) ++ fs.map V.int)) = H7 at *
    obtain ⟨ro, ero⟩ : ∃ ro, ro = c.refs ++ ws.flatMap W.refs ++ fs := ⟨_, rfl⟩
    rw [← ero] at f7 k wd
    have rol : ro.length ≤ 300 := by
      rw [ero, List.length_append, List.length_append]
      have : c.refs.length ≤ 1 := by cases c <;> first | exact Nat.le_refl 1 | exact Nat.zero_le 1
      omega
    refine ⟨fun m σ H' => ∃ (v6 v7 : Option V) (F : List Int) (kvF : List (Key × V)) (Wl : List Int), σ = [some cv, some (.ref hd), some (.ref fr), some (.ref g), some (.ref D0), some (.ref Wt), v6, v7] ∧ m = (60 - F.length) * 50 + Wl.length ∧ Same H H' ∧ H' D0 = some (.dK kvF) ∧ kvF.map (·.1) = F.map (fun b => (Sum.inl b : Key)) ∧
      DpAll K H' (kvF.map (·.2)) (F.map (tOf es)) ∧ F.Nodup ∧ (∀ b ∈ F, b ∈ es.map (·.1)) ∧ (∀ b ∈ F, Reach es ro b) ∧ (∀ b ∈ Wl, b ∈ es.map (·.1) ∧ Reach es ro b) ∧ (∀ b ∈ ro, b ∈ F ∨ b ∈ Wl) ∧ (∀ b ∈ F, ∀ t, (b, t) ∈ es → ∀ x ∈ t.nm, x ∈ F ∨ x ∈ Wl) ∧ H' Wt = some (.lst (Wl.map V.int)) ∧ Wl.length ≤ 300 + 41 * F.length,
      ⟨_, none, none, [], [], ro, rfl, rfl, s17, e7, rfl, .nil, List.nodup_nil, (fun _ m => by cases m), (fun _ m => by cases m), (fun b m => ⟨wd.ro b m, .root m⟩), (fun b m => .inr m), (fun _ m => by cases m), f7, by rw [List.length_nil]; omega⟩, fun m σ H8 hW => ?_⟩
    obtain ⟨v6, v7, F, kvF, Wl, rfl, rfl, s8, eD, hkF, hvF, ndF, kF, rF, rW, roF, clF, eW, wlb⟩ := hW
    have F60 : F.length ≤ 60 := by
      have h1 := sub_len ndF kF
      have h2 := wd.len
      rw [List.length_map] at h1
      omega
    rcases List.eq_nil_or_concat Wl with rfl | ⟨W0, b, ewl⟩
    · refine ⟨_, rfl, _, .inl ⟨_, .inl (.inl eW), rfl⟩, ?_⟩
      refine iteF ?_
      refine ⟨_, rfl, D0, kvF, F, rfl, .inl eD, hkF, by omega, fun ys p hp hs hn => ?_⟩
      have s9 := same_new (o := .lst (ys.map V.int)) hn
      have e9 : upd H8 p (.lst (ys.map V.int)) p = some (.lst (ys.map V.int)) := upd_same
      have eD9 := s9 _ _ eD
      have hv9 := dps_same s9 _ _ hvF
      generalize upd H8 p (.lst (ys.map V.int)) = H9 at *
      have hyl : ys.length ≤ 60 := by rw [hp.length_eq]; exact F60
      refine ⟨p, rfl, ⟨_, .inl (.inl e9)⟩, fun Dc hDc => ?_⟩
      refine lc_data (K := K) (walk_list (K := K) (a := p) (xs := ys.map V.int)) (fun i => (ys[i]?).map fun b => PyData.tuple [.int b, tOf es b]) hDc (by rw [List.length_map]; omega) (fun H' s => .inl (.inl (s _ _ e9))) (fun i _ d e => ?_) ?_ ?_
      · obtain ⟨b, _, rfl⟩ := Option.map_eq_some_iff.mp e
        simp [flatD, flatDs, flat_tOf]
      · rintro i x H10' H10 hi s10 ⟨rfl, ex⟩ Q1 Q0 q1 q0
        obtain ⟨b, eb, rfl⟩ := map_at ex
        have mb : b ∈ F := hp.mem_iff.mp (List.mem_of_getElem? eb)
        obtain ⟨v, gv, dv⟩ := dk_get hkF (dps_same s10 _ _ hv9) mb
        have g := DGet.k (k := Sum.inl b) (s10 _ _ eD9)
        rw [gv] at g
        refine ⟨rfl, _, rfl, _, rfl, _, rfl, D0, v, rfl, g, by show 2 ≤ sizeLine; decide, fun q hq => ?_⟩
        have s11 := same_new (o := .tup [.int b, v]) hq
        exact q1 _ _ (.tuple [.int b, tOf es b]) (by rw [eb]; rfl) s11 (.tup (.inl (.inl upd_same)) (.cons (.int _) (.cons (dp_same s11 _ _ dv) .nil)))
      · intro H10 acc s10 hacc ha
        rw [List.length_map, Cm.range_map] at ha
        refine .inl ⟨Dc, acc, rfl, .inl (.inl hacc), fun q hq => ?_⟩
        have s11 := same_new (o := .tup acc) hq
        have s811 := ((s8.trans s9).trans s10).trans s11
        refine k q ys _ s811 (asc_of hs (hp.nodup_iff.mpr ndF)) (fun b => ⟨fun m => rF b (hp.mem_iff.mp m), fun r => hp.mem_iff.mpr ?_⟩) (.tup (.inl (.inl upd_same)) (dps_same s11 _ _ ha))
        refine reach_sub (S := fun b => b ∈ F) (fun b m => (roF b m).elim id fun z => by cases z) (fun a t b ma mt mb => ?_) r
        exact (clF a ma t mt b mb).elim id fun z => by cases z
    · rw [List.concat_eq_append] at ewl
      subst ewl
      have hb := rW b (List.mem_append_right _ List.mem_cons_self)
      have hx : ((W0 ++ [b]).map V.int)[((W0 ++ [b]).map V.int).length - 1]? = some (V.int b) := by
        rw [List.map_append, List.length_append]
        show (W0.map V.int ++ [V.int b])[(W0.map V.int).length + 1 - 1]? = _
        rw [Nat.add_sub_cancel, List.getElem?_append_right (Nat.le_refl _), Nat.sub_self]
        rfl
      refine ⟨_, rfl, _, .inl ⟨_, .inl (.inl eW), rfl⟩, ?_⟩
      have et : (!((W0 ++ [b]).map V.int).isEmpty) = true := by
        rw [List.map_append]
        cases W0 <;> rfl
      rw [et]
      refine iteT ⟨_, fun σ' H' z => z, ?_⟩
      refine ⟨_, rfl, .inl ⟨rfl, _, .inl (.inl eW)⟩, Wt, _, .int b, rfl, rfl, eW, hx, ?_⟩
      have edl : ((W0 ++ [b]).map V.int).dropLast = W0.map V.int := by
        rw [List.map_append]
        exact List.dropLast_concat
      rw [edl]
      have s9 := same_put (o := .lst (W0.map V.int)) s8 nW
      have e9 : upd H8 Wt (.lst (W0.map V.int)) Wt = some (.lst (W0.map V.int)) := upd_same
      have eD9 : upd H8 Wt (.lst (W0.map V.int)) D0 = some (.dK kvF) := by rw [upd_ne neD]; exact eD
      have hv9 : DpAll K (upd H8 Wt (.lst (W0.map V.int))) (kvF.map (·.2)) (F.map (tOf es)) := dps_keep (fun _ _ q => sqt_put eW q) _ _ (flatDs_of _ fun d m => by
        obtain ⟨b, _, rfl⟩ := List.mem_map.mp m
        exact flat_tOf es b) hvF
      generalize upd H8 Wt (.lst (W0.map V.int)) = H9 at *
      have wlb' : W0.length + 1 ≤ 300 + 41 * F.length := by
        rw [List.length_append] at wlb
        exact wlb
      by_cases mb : b ∈ F
      · obtain ⟨v, gv, _⟩ := dk_get hkF hv9 mb
        have g' := DGet.k (k := Sum.inl b) eD9
        rw [gv] at g'
        refine ⟨_, rfl, _, rfl, D0, some v, rfl, g', _, rfl, iteF ?_⟩
        refine ⟨(60 - F.length) * 50 + W0.length, by rw [List.length_append]; show _ < _ + (W0.length + 1); omega, some (.int b), v7, F, kvF, W0, rfl, rfl, s9, eD9, hkF, hv9, ndF, kF, rF, fun x m => rW x (List.mem_append_left _ m), fun x m => ?_, fun a ma t mt x mx => ?_, e9, by omega⟩
        · rcases roF x m with z | z
          · exact .inl z
          · rcases List.mem_append.mp z with z | z
            · exact .inr z
            · rw [List.mem_singleton.mp z]; exact .inl mb
        · rcases clF a ma t mt x mx with z | z
          · exact .inl z
          · rcases List.mem_append.mp z with z | z
            · exact .inr z
            · rw [List.mem_singleton.mp z]; exact .inl mb
      · obtain ⟨nk, gv⟩ := dk_no hkF mb
        have g' := DGet.k (k := Sum.inl b) eD9
        rw [gv] at g'
        refine ⟨_, rfl, _, rfl, D0, none, rfl, g', _, rfl, iteT ?_⟩
        obtain ⟨vt, t, g1, g2, g3, g4⟩ := ths_get (d := d) th.ks (dps_same s9 _ _ th.vs) hb.1
        refine ⟨g, cl, cc, rfl, s9 _ _ hg, _, rfl, s9 _ _ hg, s9 _ _ hcc, [.ref d], cellsF_same CF s9, d, b, kvs, vt, rfl, rfl, s9 _ _ th.at_, g1, ?_⟩
        refine ⟨_, rfl, _, rfl, D0, _, rfl, DPut.k (k := Sum.inl b) eD9 (Nat.lt_of_le_of_lt (show kvF.length ≤ 60 by
          have := congrArg List.length hkF
          rw [List.length_map, List.length_map] at this
          omega) (by decide)), ?_⟩
        rw [putK_end nk]
        have nD0 : H D0 = none := hD0
        have s10 := same_put (o := .dK (kvF ++ [(Sum.inl b, vt)])) s9 nD0
        have e10 : upd H9 D0 (.dK (kvF ++ [(Sum.inl b, vt)])) D0 = some (.dK (kvF ++ [(Sum.inl b, vt)])) := upd_same
        have eW10 : upd H9 D0 (.dK (kvF ++ [(Sum.inl b, vt)])) Wt = some (.lst (W0.map V.int)) := by rw [upd_ne neD.symm]; exact e9
        have kd : Kd D0 H9 (upd H9 D0 (.dK (kvF ++ [(Sum.inl b, vt)]))) := Kd.put eD9
        have etb : tOf es b = t.enc := tOf_at g4
        have hv10 : DpAll K (upd H9 D0 (.dK (kvF ++ [(Sum.inl b, vt)]))) ((kvF ++ [((Sum.inl b : Key), vt)]).map (·.2)) ((F ++ [b]).map (tOf es)) := by
          rw [List.map_append, List.map_append]
          refine DpAll.app (kd.dps (flatDs_of _ fun d m => by
            obtain ⟨b, _, rfl⟩ := List.mem_map.mp m
            exact flat_tOf es b) hv9) (.cons ?_ .nil)
          rw [etb]
          exact kd.dp (flat_Tn t) g3
        have hk10 : (kvF ++ [((Sum.inl b : Key), vt)]).map (·.1) = (F ++ [b]).map (fun b => (Sum.inl b : Key)) := by
          rw [List.map_append, List.map_append, hkF]
          rfl
        generalize upd H9 D0 (.dK (kvF ++ [(Sum.inl b, vt)])) = H10 at *
        have nd10 : (F ++ [b]).Nodup := by
          rw [List.nodup_append]
          exact ⟨ndF, by simp, fun x m y my e => by rw [List.mem_singleton.mp my] at e; rw [e] at m; exact mb m⟩
        obtain ⟨v', gv', dv'⟩ := dk_get hk10 hv10 (List.mem_append_right F (List.mem_cons_self (a := b) (l := [])))
        rw [etb] at dv'
        have g10 := DGet.k (k := Sum.inl b) e10
        rw [gv'] at g10
        have szt := wd.sz (b, t) g2
        refine ⟨_, rfl, .inl ⟨rfl, _, .inl (.inl eW10)⟩, ?_⟩
        refine ⟨_, rfl, _, rfl, D0, v', rfl, g10, v', t, rfl, dv', szt, fun r H11 s11 n11 e11 => ?_⟩
        refine ⟨r, rfl, ⟨_, .inl (.inl e11)⟩, fun Dc hDc => ?_⟩
        have nml : t.nm.length ≤ 41 := nm_len szt
        refine lc_data (K := K) (walk_list (K := K) (a := r) (xs := t.nm.map V.int)) (fun i => (t.nm[i]?).bind fun x => if decide (x ∈ F ++ [b]) = true then none else some (PyData.int x)) hDc (by rw [List.length_map]; omega) (fun H' s => .inl (.inl (s _ _ e11))) (fun i _ d e => ?_) ?_ ?_
        · obtain ⟨x, _, e⟩ := Option.bind_eq_some_iff.mp e
          split at e
          · cases e
          · cases e; rfl
        · rintro i x H12' H12 hi s12 ⟨rfl, ex⟩ Q1 Q0 q1 q0
          obtain ⟨y, ey, rfl⟩ := map_at ex
          have eD12 := s12 _ _ (s11 _ _ e10)
          have hv12 := dps_same (s11.trans s12) _ _ hv10
          refine ⟨rfl, ?_⟩
          by_cases my : y ∈ F ++ [b]
          · obtain ⟨v3, gv3, _⟩ := dk_get hk10 hv12 my
            have g12 := DGet.k (k := Sum.inl y) eD12
            rw [gv3] at g12
            refine ⟨_, rfl, _, rfl, D0, some v3, rfl, g12, _, rfl, iteF (q0 _ ?_ (Same.refl _))⟩
            rw [ey]
            show (if decide (y ∈ F ++ [b]) = true then none else some (PyData.int y)) = none
            rw [decide_eq_true my]
            rfl
          · have g12 := DGet.k (k := Sum.inl y) eD12
            rw [(dk_no hk10 my).2] at g12
            refine ⟨_, rfl, _, rfl, D0, none, rfl, g12, _, rfl, iteT ⟨_, rfl, q1 _ _ (.int y) ?_ (Same.refl _) (.int _)⟩⟩
            rw [ey]
            show (if decide (y ∈ F ++ [b]) = true then none else some (PyData.int y)) = _
            rw [decide_eq_false my]
            rfl
        · intro H12 acc s12 hacc ha
          rw [List.length_map, range_out] at ha
          have := dpAll_ints_inv ha
          subst this
          have eW12 := s12 _ _ (s11 _ _ eW10)
          have fl : (t.nm.filter fun x => !decide (x ∈ F ++ [b])).length ≤ 41 := Nat.le_trans (List.length_filter_le _ _) nml
          refine ⟨Wt, Dc, _, _, rfl, rfl, eW12, hacc, Nat.le_trans (show (W0.map V.int).length + ((t.nm.filter fun x => !decide (x ∈ F ++ [b])).map V.int).length ≤ 10000 by
            rw [List.length_map, List.length_map]; omega) (by decide), ?_⟩
          have s13 := same_put (o := .lst (W0.map V.int ++ (t.nm.filter fun x => !decide (x ∈ F ++ [b])).map V.int)) ((s10.trans s11).trans s12) nW
          refine ⟨(60 - (F ++ [b]).length) * 50 + (W0 ++ t.nm.filter fun x => !decide (x ∈ F ++ [b])).length, ?_, some (.int b), v7, F ++ [b], _, W0 ++ t.nm.filter fun x => !decide (x ∈ F ++ [b]), rfl, rfl, s13, ?_, hk10, ?_, nd10, fun a m => ?_, fun a m => ?_, fun x m => ?_, fun x m => ?_, fun a ma t' mt x mx => ?_, ?_, ?_⟩
          · have F59 : F.length + 1 ≤ 60 := by
              have h1 := sub_len nd10 fun a m => (List.mem_append.mp m).elim (kF a) fun z => by rw [List.mem_singleton.mp z]; exact hb.1
              have h2 := wd.len
              rw [List.length_map, List.length_append] at h1
              exact Nat.le_trans h1 h2
            rw [List.length_append, List.length_append, List.length_append]
            show (60 - (F.length + 1)) * 50 + _ < (60 - F.length) * 50 + (W0.length + 1)
            omega
          · rw [upd_ne neD]
            exact s12 _ _ (s11 _ _ e10)
          · exact dps_keep (fun _ _ q => sqt_put eW12 q) _ _ (flatDs_of _ fun d m => by
              obtain ⟨b, _, rfl⟩ := List.mem_map.mp m
              exact flat_tOf es b) (dps_same (s11.trans s12) _ _ hv10)
          · rcases List.mem_append.mp m with z | z
            · exact kF a z
            · rw [List.mem_singleton.mp z]; exact hb.1
          · rcases List.mem_append.mp m with z | z
            · exact rF a z
            · rw [List.mem_singleton.mp z]; exact hb.2
          · rcases List.mem_append.mp m with z | z
            · exact rW x (List.mem_append_left _ z)
            · have mx := (List.mem_filter.mp z).1
              exact ⟨wd.cl (b, t) g2 x mx, .step hb.2 g2 mx⟩
          · rcases roF x m with z | z
            · exact .inl (List.mem_append_left _ z)
            · rcases List.mem_append.mp z with z | z
              · exact .inr (List.mem_append_left _ z)
              · exact .inl (List.mem_append_right _ z)
          · rcases List.mem_append.mp ma with z | z
            · rcases clF a z t' mt x mx with z | z
              · exact .inl (List.mem_append_left _ z)
              · rcases List.mem_append.mp z with z | z
                · exact .inr (List.mem_append_left _ z)
                · exact .inl (List.mem_append_right _ z)
            · rw [List.mem_singleton.mp z] at mt
              rw [one_thing wd.nd mt g2] at mx
              by_cases q : x ∈ F ++ [b]
              · exact .inl q
              · exact .inr (List.mem_append_right _ (List.mem_filter.mpr ⟨mx, by rw [decide_eq_false q]; rfl⟩))
          · rw [upd_same, List.map_append]
          · rw [List.length_append, List.length_append]
            show W0.length + _ ≤ 300 + 41 * (F.length + 1)
            omega
end
end K06

namespace K06
open PySem L2 Cm
theorem reach_mem {es : List (Int × Tn)} {ro ro' : List Int} (h : ∀ b, b ∈ ro ↔ b ∈ ro') (b : Int) : Reach es ro b ↔ Reach es ro' b :=
  ⟨fun r => reach_sub (S := Reach es ro') (fun x m => .root ((h x).mp m)) (fun _ _ _ a m n => .step a m n) r, fun r => reach_sub (S := Reach es ro) (fun x m => .root ((h x).mpr m)) (fun _ _ _ a m n => .step a m n) r⟩
/-- what is found is closed, when nothing more is named -/
theorem closed_reach {es : List (Int × Tn)} {ro F : List Int} (h0 : ∀ b ∈ ro, b ∈ F) (hr : ∀ b ∈ F, Reach es ro b) (hc : ∀ a ∈ F, ∀ t, (a, t) ∈ es → ∀ x ∈ t.nm, x ∈ F) (b : Int) : b ∈ F ↔ Reach es ro b :=
  ⟨hr b, fun r => reach_sub (S := fun b => b ∈ F) h0 (fun a t x ma mt mx => hc a ma t mt x mx) r⟩
theorem fm_cg {α β : Type} {f g : α → Option β} : ∀ {l : List α}, (∀ x ∈ l, f x = g x) → l.filterMap f = l.filterMap g
  | [], _ => rfl
  | a :: l, h => by
    rw [List.filterMap_cons, List.filterMap_cons, h a List.mem_cons_self, fm_cg fun x m => h x (List.mem_cons_of_mem _ m)]
/-- each once, at its first place -/
def ded (ls : List Int) : List Int := (List.range ls.length).filterMap fun i => (ls[i]?).bind fun x => if x ∈ ls.take i then none else some x
theorem ded_snoc (l : List Int) (a : Int) : ded (l ++ [a]) = if a ∈ l then ded l else ded l ++ [a] := by
  unfold ded
  rw [List.length_append, show l.length + [a].length = l.length + 1 from rfl, List.range_succ, List.filterMap_append]
  have e1 : (List.range l.length).filterMap (fun i => ((l ++ [a])[i]?).bind fun x => if x ∈ (l ++ [a]).take i then none else some x) = (List.range l.length).filterMap (fun i => (l[i]?).bind fun x => if x ∈ l.take i then none else some x) := by
    refine fm_cg fun i m => ?_
    have hi : i < l.length := List.mem_range.mp m
    rw [List.getElem?_append_left hi, List.take_append_of_le_length (Nat.le_of_lt hi)]
  rw [e1, List.filterMap_cons, List.filterMap_nil, List.getElem?_append_right (Nat.le_refl _), Nat.sub_self, List.take_append_of_le_length (Nat.le_refl _), List.take_length]
  by_cases z : a ∈ l
  · simp [z]
  · simp [z]
theorem ded_all : ∀ (n : Nat) (ls : List Int), ls.length = n → (ded ls).Nodup ∧ ∀ x, x ∈ ded ls ↔ x ∈ ls
  | 0, ls, h => by
    rw [List.length_eq_zero_iff.mp h]
    exact ⟨List.nodup_nil, fun x => Iff.rfl⟩
  | n + 1, ls, h => by
    rcases List.eq_nil_or_concat ls with e | ⟨l, a, e⟩
    · rw [e] at h; cases h
    rw [List.concat_eq_append] at e
    subst e
    rw [List.length_append] at h
    have ih := ded_all n l (Nat.succ.inj h)
    rw [ded_snoc]
    by_cases z : a ∈ l
    · rw [if_pos z]
      refine ⟨ih.1, fun x => (ih.2 x).trans ⟨fun m => List.mem_append_left _ m, fun m => ?_⟩⟩
      rcases List.mem_append.mp m with m | m
      · exact m
      · rw [List.mem_singleton.mp m]; exact z
    · rw [if_neg z]
      refine ⟨?_, fun x => ?_⟩
      · rw [List.nodup_append]
        exact ⟨ih.1, by simp, fun x m y my e => by rw [List.mem_singleton.mp my] at e; rw [e] at m; exact z ((ih.2 a).mp m)⟩
      · rw [List.mem_append, List.mem_append, ih.2 x]
def spDue (K : PySem.W.Frag) : Sp := fun vs H Q _ => ∃ (cv : V) (hd fr d : Addr) (c : W) (ws : List W) (us : List V) (fs : List Int) (es : List (Int × Tn)) (kvs : List (Key × V)), vs = [cv, .ref hd, .ref fr, .ref d] ∧ Dp K H cv c.enc ∧ SqT K H hd us ∧ DpAll K H us (ws.map W.enc) ∧ ws.length ≤ 100 ∧
  SqT K H fr (fs.map V.int) ∧ fs.length ≤ 100 ∧ Ths K d es kvs H ∧ Wld es (c.refs ++ ws.flatMap W.refs ++ fs) ∧
  ∀ (r : Addr) (S : List Int) (H' : Hp), Same H H' → S.Pairwise (· < ·) → (∀ b, b ∈ S ↔ Reach es (c.refs ++ ws.flatMap W.refs ++ fs) b) → Dp K H' (.ref r) (.tuple (S.map fun b => .tuple [.int b, tOf es b])) → Q (.ref r) H'
section
variable {P : Program} {w : World} {K : PySem.W.Frag} {mg : Str → Option Value} {base : Heap}
abbrev s_l_due : Stmt := top 27
abbrev N_l_due : List Str := ["_law_callee", "_law_handed", "_law_frames_here", "_law_things", "_law_found", "_law_value", "_law_turn", "_law_more", "_law_birth", "_law_each", "_law_k"]
theorem sc_l_due : FnScope N_l_due ["_law_callee", "_law_handed", "_law_frames_here", "_law_things"] (defScope s_l_due) := ⟨rfl, rfl, rfl, by decide +kernel, rfl, by decide +kernel, by decide +kernel⟩
end
end K06

/-! zip of a tuple and a list -/
namespace Cm
open PySem L2 PySem.Spec PyProof.Rows
def ItzM (K : PySem.W.Frag) (a b : Addr) : It :=
  ⟨fun i H => ∃ (xs ys : List V) (x y : V), SqT K H a xs ∧ SqL K H b ys ∧ xs[i]? = some x ∧ ys[i]? = some y,
    fun i H v H' => ∃ T x y, v = .ref T ∧ H T = Option.none ∧ H' = upd H T (.tup [x, y]) ∧ (∀ xs, SqT K H a xs → xs[i]? = some x) ∧ ∀ ys, SqL K H b ys → ys[i]? = some y,
    fun i H => ∃ xs ys : List V, SqT K H a xs ∧ SqL K H b ys ∧ i ≤ xs.length ∧ i ≤ ys.length ∧ (i = xs.length ∨ i = ys.length)⟩
theorem sep_of {z TI TO i1 i2 a b : Addr} (D : ZipApart z TI TO i1 i2 a b) : ZipSep2 z TI TO i1 i2 [i1, a] [i2, b] where
  TIz := D.TIz
  TOz := D.TOz
  TITO := D.TITO
  TIi1 := D.TIi1
  mem1 := by simp
  zf1 := fun h => by
    rcases (show z = i1 ∨ z = a by simpa using h) with q | q
    · exact D.i1z q.symm
    · exact D.l1z q.symm
  Tf1 := fun h => by
    rcases (show TO = i1 ∨ TO = a by simpa using h) with q | q
    · exact D.TOi1 q
    · exact D.l1TO q.symm
  TIi2 := D.TIi2
  mem2 := by simp
  zf2 := fun h => by
    rcases (show z = i2 ∨ z = b by simpa using h) with q | q
    · exact D.i2z q.symm
    · exact D.l2z q.symm
  Tf2 := fun h => by
    rcases (show TO = i2 ∨ TO = b by simpa using h) with q | q
    · exact D.TOi2 q
    · exact D.l2TO q.symm
  sep1_2 := fun h => by
    rcases (show i1 = i2 ∨ i1 = b by simpa using h) with q | q
    · exact D.i12 q
    · exact D.l2i1 q.symm
  sep2_1 := fun h => by
    rcases (show i2 = i1 ∨ i2 = a by simpa using h) with q | q
    · exact D.i12 q.symm
    · exact D.l1i2 q.symm
theorem turn_zipM {P : Program} {w : World} {K : PySem.W.Frag} {elts : List Expr} {kk : Nat} {tpos : Pos} {a b z TI TO i1 i2 : Addr} (D : ZipApart z TI TO i1 i2 a b) :
    Turn P w K (.Tuple elts kk tpos) (ItzM K a b) [z, TI, TO, i1, i2] z (fun i h => IsZip h z TI TO .none ∧ IsPair h TI (.ref i1) (.ref i2) ∧ (∃ x y, IsPair h TO x y) ∧ h.IsTupleIter i1 a i ∧ h.IsListIter i2 b i) where
  mem := by simp
  obj := fun i h st c hc => by
    obtain ⟨hz, hTI, ⟨x, y, hTO⟩, ⟨o1, e1, _, d1⟩, ⟨o2, e2, _, d2⟩⟩ := st
    have e' : c = z ∨ c = TI ∨ c = TO ∨ c = i1 ∨ c = i2 := by simpa using hc
    rcases e' with q | q | q | q | q
    · rw [q]; exact ⟨_, hz, fun v q => nomatch q⟩
    · rw [q]; exact ⟨_, hTI, fun v q => nomatch q⟩
    · rw [q]; exact ⟨_, hTO, fun v q => nomatch q⟩
    · rw [q]; exact ⟨o1, e1, fun v q => by rw [d1] at q; cases q⟩
    · rw [q]; exact ⟨o2, e2, fun v q => by rw [d2] at q; cases q⟩
  keep := fun i h h' st k => by
    obtain ⟨hz, hTI, ⟨x, y, hTO⟩, h1, h2⟩ := st
    exact ⟨k z (by simp) _ hz, k TI (by simp) _ hTI, ⟨x, y, k TO (by simp) _ hTO⟩, h1.at fun o q => k i1 (by simp) o q, h2.at fun o q => k i2 (by simp) o q⟩
  item := by
    intro X hP hw hK hc i pins s σ H E I hf st hg
    subst hP hw hK
    obtain ⟨hz, hTI, ⟨x0, y0, hTO⟩, h1, h2⟩ := st
    obtain ⟨xs, ys, x, y, hqx, hqy, hx, hy⟩ := hg
    obtain ⟨its, rv, p, _⟩ := I.tuple hqx
    obtain ⟨its2, rv2, p2, _⟩ := I.list hqy
    obtain ⟨u, hu, ru⟩ := rv.get hx
    obtain ⟨u2, hu2, ru2⟩ := rv2.get hy
    have hzl : z < s.heap.objs.size := Heap.lt_size hz
    have hh : X.A.in1.handled = Option.none := I.ok.hd hc
    have i1l : i < its.toArray.size := by
      have := List.getElem?_eq_some_iff.mp hu
      simpa using this.1
    have i2l : i < its2.toArray.size := by
      have := List.getElem?_eq_some_iff.mp hu2
      simpa using this.1
    refine wpAny_pyNext_zipD2_item (sep_of D) (Draws.tuple hh i1 a D.l1i1 its.toArray) (Draws.list hh i2 b D.l2i2 its2.toArray) hz hTI hTO ⟨h1, p⟩ ⟨h2, p2.isList⟩ i1l i2l fun x1 x2 h' tk y1 y2 z' TO' st1 st2 hT hsz hk => ?_
    obtain rfl : u = x1 := by
      have : its[i]? = some x1 := by simpa using y1
      rw [hu] at this
      exact Option.some.inj this
    obtain rfl : u2 = x2 := by
      have : its2[i]? = some x2 := by simpa using y2
      rw [hu2] at this
      exact Option.some.inj this
    obtain ⟨h1', _⟩ := st1
    obtain ⟨h2', _⟩ := st2
    refine ⟨_, rfl, wpAny_letOwnedTupleGo_zip (s := { s with heap := h', toks := tk }) z' fun h'' z'' sb => ?_⟩
    have hT2 : h''.get? s.heap.objs.size = some { cls := .type "tuple", data := .seq #[u, u2] } := (sb.2 _ (Nat.ne_of_gt hzl)).trans hT
    have new : ObjOk X.prog X.w (upd H s.heap.objs.size (.tup [x, y])) h'' s.heap.objs.size (.tup [x, y]) :=
      ⟨by show 2 ≤ sizeLine; decide, [u, u2], .cons ru (.cons ru2 .nil), ⟨_, hT2, rfl, _, rfl⟩⟩
    have I1 : Inv X pins σ (upd H s.heap.objs.size (.tup [x, y])) { s with heap := h'', toks := tk } :=
      I.turnedNew (t' := tk) (ch := [z, TI, TO, i1, i2]) (fun c o hb q => (sb.2 c (fun q' => hb (by simp [q']))).trans (hk c o (fun q' => hb (by simp [q'])) (fun q' => hb (by simp [q'])) (fun q' => hb (by simp [q'])) (fun q' => hb (by simp [q'])) q)) hf (Nat.le_refl _) new
    refine ⟨.ref s.heap.objs.size, _, I1, rfl, ⟨_, x, y, rfl, I.hok.fresh (Nat.le_refl _), rfl, fun l hl => by rw [I.tuple_inj hl hqx]; exact hx, fun l hl => by rw [I.list_inj hl hqy]; exact hy⟩, ⟨z'', ?_, ⟨u, u2, ?_⟩, ?_, ?_⟩, fun c hcm => ?_⟩
    · exact (sb.2 _ D.TIz).trans (hk _ _ D.TIz D.TITO D.TIi1 D.TIi2 hTI)
    · exact (sb.2 _ D.TOz).trans TO'
    · exact h1'.at fun o q => (sb.2 _ D.i1z).trans q
    · exact h2'.at fun o q => (sb.2 _ D.i2z).trans q
    · have hlt : c < s.heap.objs.size := by
        have e' : c = z ∨ c = TI ∨ c = TO ∨ c = i1 ∨ c = i2 := by simpa using hcm
        rcases e' with q | q | q | q | q
        · rw [q]; exact hzl
        · rw [q]; exact Heap.lt_size hTI
        · rw [q]; exact Heap.lt_size hTO
        · rw [q]; obtain ⟨_, e1, _⟩ := h1; exact Heap.lt_size e1
        · rw [q]; obtain ⟨_, e2, _⟩ := h2; exact Heap.lt_size e2
      rw [upd_ne (Nat.ne_of_lt hlt)]
      exact (hf c hcm).1
  done := by
    intro X hP hw hK hc i pins s σ H E I hf st hg
    subst hP hw hK
    obtain ⟨hz, hTI, ⟨x0, y0, hTO⟩, h1, h2⟩ := st
    obtain ⟨xs, ys, hqx, hqy, hend1, hend2, hend⟩ := hg
    obtain ⟨its, rv, p, _⟩ := I.tuple hqx
    obtain ⟨its2, rv2, p2, _⟩ := I.list hqy
    have hh : X.A.in1.handled = Option.none := I.ok.hd hc
    have l1 := rv.length
    have l2 := rv2.length
    exact wpAny_pyNext_zipD2_end (i := i) (sep_of D) (Draws.tuple hh i1 a D.l1i1 its.toArray) (Draws.list hh i2 b D.l2i2 its2.toArray) hz hTI hTO ⟨h1, p⟩ ⟨h2, p2.isList⟩ (by simp; omega) (by simp; omega) (by
      rcases hend with q | q
      · exact .inl (by simp; omega)
      · exact .inr (by simp; omega)) fun h' tk hk => ⟨rfl, I.turnedL (t' := tk) (ch := [z, TI, TO, i1, i2]) (fun c o hb q =>
      hk c o (fun q' => hb (by simp [q'])) (fun q' => hb (by simp [q'])) (fun q' => hb (by simp [q'])) (fun q' => hb (by simp [q'])) q) hf⟩
  self := fun A i s Q E st h => wpAny_pyIter_zip st.1 h
def iZipM (K : PySem.W.Frag) (ta : TA) : TI := fun σ H R => ta σ H fun vs H1 => ∃ a b xs ys, vs = [.ref a, .ref b] ∧ SqT K H1 a xs ∧ SqL K H1 b ys ∧ R (ItzM K a b) H1
theorem pi_zipM {X : Cx} {e e2 : Expr} {ta : TA} {p pos tpos : Pos} {elts : List Expr} {kk : Nat} (hg : Gl X "zip") (hm : X.mg "zip" = Option.none) (ha : PA X [e, e2] ta)
    (hs : starEach [e, e2] X.env = (false, eval e X.env) :: starEach [e2] X.env := by rfl) (hpl : (backTo pos (starEach [e2] X.env)).any (·.1) = false := by rfl) :
    PI X (.Tuple elts kk tpos) (.Call (.Name "zip" p) [e, e2] [] pos) (iZipM X.K ta) := by
  refine ⟨fun pins s σ H R I h => ?_⟩
  refine Call_ (ld_blt I hg hm PyProof.Rows.boot_zip (PyProof.Rows.callWith_type1 (thn (ha.run pos pins s σ H _ I h) fun us s1 ⟨vs, H1, I1, r1, q1⟩ => ?_) hs hpl))
  obtain ⟨a, b, xs, ys, ex, hqx, hqy, q⟩ := q1
  subst ex
  cases r1 with
  | cons r rr =>
    cases rr with
    | cons r' rr =>
      cases rr
      cases r
      cases r'
      obtain ⟨its, rv, p1, _⟩ := I1.tuple hqx
      obtain ⟨its2, rv2, p2, _⟩ := I1.list hqy
      obtain ⟨oa, ho1, _⟩ := id p1
      have la : a < s1.heap.objs.size := Heap.lt_size ho1
      have lb : b < s1.heap.objs.size := p2.lt
      refine zip_begins2 (begins_tuple a its.toArray) (begins_list b its2.toArray) p1 p2.isList fun h' hz hTI hTO h1 h2 hsz hk => wpAny_pyIter_zip hz ?_
      have I2 : Inv X pins σ H1 { s1 with heap := h' } := I1.kept (t' := s1.toks) hk
      refine ⟨s1.heap.objs.size + 4, [s1.heap.objs.size + 4, s1.heap.objs.size + 2, s1.heap.objs.size + 3, s1.heap.objs.size, s1.heap.objs.size + 1], _, _, H1, rfl, I2, turn_zipM (PySem.W.ktu_apart s1.heap.objs.size a b la lb), ⟨hz, hTI, ⟨_, _, hTO⟩, ⟨_, h1, rfl, rfl⟩, ⟨_, h2, rfl, rfl⟩⟩, fun c hcm => ?_, q⟩
      have e' : c = s1.heap.objs.size + 4 ∨ c = s1.heap.objs.size + 2 ∨ c = s1.heap.objs.size + 3 ∨ c = s1.heap.objs.size ∨ c = s1.heap.objs.size + 1 := by simpa using hcm
      have hle : s1.heap.objs.size ≤ c := by
        rcases e' with z | z | z | z | z
        · rw [z]; exact Nat.le_add_right _ _
        · rw [z]; exact Nat.le_add_right _ _
        · rw [z]; exact Nat.le_add_right _ _
        · rw [z]; exact Nat.le_refl _
        · rw [z]; exact Nat.le_add_right _ _
      exact I1.fpOk hle (I1.hok.fresh hle)
theorem walk_zipM {K : PySem.W.Frag} {a b : Addr} {xs ys : List V} {n : Nat} (h1 : xs.length = n ∨ ys.length = n) (h2 : n ≤ xs.length) (h3 : n ≤ ys.length) : Walk (ItzM K a b) n (fun H => SqT K H a xs ∧ SqL K H b ys) (YPair (fun i => xs[i]?) (fun i => ys[i]?)) := by
  refine ⟨fun i _ hi q => ?_, fun _ q => ⟨xs, ys, q.1, q.2, h2, h3, by omega⟩, fun i H v H' _ q y => ?_⟩
  · have h1 : i < xs.length := by omega
    have h2 : i < ys.length := by omega
    exact ⟨xs, ys, xs[i], ys[i], q.1, q.2, by simp [h1], by simp [h2]⟩
  · obtain ⟨T, x, z, h1, h2, h3, h4, h5⟩ := y
    exact ⟨T, x, z, h1, h2, h3, h4 xs q.1, h5 ys q.2⟩
end Cm

set_option linter.all false
/-! xs[a::c] of a list, c not zero: a new list of some of its items -/
namespace Cm
open PySem L2 PySem.Spec PyProof.Rows
theorem vals_pick {xs : List V} {its : List Value} (r : Vals xs its) : ∀ ks : List Nat, Vals (ks.filterMap (xs[·]?)) (ks.filterMap (its.toArray[·]?))
  | [] => .nil
  | k :: ks => by
    have ih := vals_pick r ks
    cases e : xs[k]? with
    | none =>
      have e2 := r.none_of e
      have e3 : its.toArray[k]? = none := by simpa using e2
      rw [List.filterMap_cons, List.filterMap_cons, e, e3]
      exact ih
    | some x =>
      obtain ⟨u, hu, ru⟩ := r.get e
      have e3 : its.toArray[k]? = some u := by simpa using hu
      rw [List.filterMap_cons, List.filterMap_cons, e, e3]
      exact .cons ru ih
theorem pick_mem {xs : List V} {ks : List Nat} {y : V} (m : y ∈ ks.filterMap (xs[·]?)) : y ∈ xs := by
  obtain ⟨k, _, e⟩ := List.mem_filterMap.mp m
  exact List.mem_of_getElem? e
def stepR (K : PySem.W.Frag) (a : Addr) (xs : List V) (Q : VK) (o : Option Int) (H3 : Hp) : Prop := ∃ c, o = some c ∧ c ≠ 0 ∧ SqL K H3 a xs ∧
  ∀ (p : Addr) (ys : List V), H3 p = none → ys.length ≤ xs.length → (∀ y ∈ ys, y ∈ xs) → Q (.ref p) (upd H3 p (.lst ys))
def tStepL (K : PySem.W.Frag) (te tl ts : TE) : TE := fun σ H Q => te σ H fun x H1 => ∃ a xs, x = .ref a ∧ SqL K H1 a xs ∧ tPart tl σ H1 fun _ H2 => tPart ts σ H2 (stepR K a xs Q)
theorem pe_stepL {X : Cx} {e el es : Expr} {te tl ts : TE} {p3 pos : Pos} (he : PE X e te) (hl : PE X el tl) (hs : PE X es ts) : PE X (.Subscript e (.Slice (some el) none (some es) p3) pos) (tStepL X.K te tl ts) := by
  refine ⟨fun pins s σ H Q I h => ?_⟩
  refine Subscript_ (thn (he.run pins s σ H _ I h) fun v s1 ⟨x, H1, I1, r1, q1⟩ => ?_)
  obtain ⟨a, xs, ex, hx, q⟩ := q1
  subst ex
  cases r1
  refine wpAny_Slice (thn ((po_some hl).run pins s1 σ H1 (fun _ H2 => tPart ts σ H2 (stepR X.K a xs Q)) I1 q) fun vl s2 ⟨l, H2, I2, pl, q2⟩ => ?_)
  refine thn (po_none.run pins s2 σ H2 (fun o H3 => o = none ∧ H3 = H2) I2 ⟨rfl, rfl⟩) fun vu s3 ⟨u, H3, I3, pu, eu, e3⟩ => ?_
  subst eu e3
  refine thn ((po_some hs).run pins s3 σ H3 (stepR X.K a xs Q) I3 q2) fun vs s4 ⟨o, H4, I4, ps, c, eo, hc, hx4, q4⟩ => ?_
  subst eo
  have I5 : Inv X pins σ H4 { s4 with heap := s4.heap.push { cls := .type "slice", data := .fields #[vl, vu, vs] } } := I4.kept (t' := s4.toks) fun b ob q => Heap.get?_push_of_some _ q
  obtain ⟨its, r, ht, hz⟩ := I5.list hx4
  have hlen := r.length
  show wpAny (model X.prog X.w) X.A (subscriptTail e (.Slice (some el) none (some es) p3) (.ref a) (.ref s4.heap.objs.size)) (EP X pins σ Q) X.xe { s4 with heap := s4.heap.push { cls := .type "slice", data := .fields #[vl, vu, vs] } }
  refine tail_any (ops := [.ref a, .ref s4.heap.objs.size]) ht.isList.typeIs (PySem.slot_list_getitem.lookup) ?_ (by with_unfolding_all rfl)
  refine wpAny_getItem_list_slice ht.isList (Heap.IsSliceOf.new _ vl vu vs) pl pu ps (by intro z; cases z; exact hc rfl) ?_ (by rw [List.size_toArray]; omega)
  have hsz := slicePick_size_le its.toArray l none (some c)
  unfold slicePick at hsz ⊢
  generalize sliceRange _ _ _ = ks at *
  have hv := vals_pick r ks
  have hl2 := hv.length
  have hle : (ks.filterMap (xs[·]?)).length ≤ xs.length := by
    rw [hl2, hlen]
    simpa using hsz
  refine ⟨.ref _, _, I5.laid (t' := s4.toks) (o := .lst (ks.filterMap (xs[·]?))) (fun b ob q => Heap.get?_push_of_some _ q) (Nat.le_refl _) ?_, rfl, q4 _ _ (I5.hok.fresh (Nat.le_refl _)) hle fun y m => pick_mem m⟩
  exact ⟨Nat.le_trans hle hz, _, 0, hv, Heap.get?_push_size _ rfl⟩
end Cm
namespace Cm
open PySem L2 PySem.Spec PyProof.Rows
def rNotInT (K : PySem.W.Frag) : R2 := fun x y H Q => ∃ d ds, Dp K H x d ∧ Dp K H y (.tuple ds) ∧ SeqAt.shaped d = true ∧ SeqAt.shaped (.tuple ds) = true ∧ Q (.bl (!ds.any fun z => PyData.eqv z d)) H
theorem op_notInT {X : Cx} (hu : X.A.units + 65 < cLine) : OpR X (compareOp .NotIn) (rNotInT X.K) := by
  intro pins s σ H x y v u Q I rx ry h
  obtain ⟨d, ds, hd, he, sd, se, q⟩ := h
  obtain ⟨as, r1⟩ := Dp.reads I d x v hd rx
  obtain ⟨bs, r2⟩ := Dp.reads I (.tuple ds) y u he ry
  exact SeqAt.notIn_tuple_reads r2 r1 (SeqAt.canLay_of_shaped se) (SeqAt.canLay_of_shaped sd) (room_in_shaped sd hu) ⟨.bl _, H, I, rfl, q⟩
end Cm

namespace Cm
open PySem L2 PySem.Spec PyProof.Rows
def rInT (K : PySem.W.Frag) : R2 := fun x y H Q => ∃ d ds, Dp K H x d ∧ Dp K H y (.tuple ds) ∧ SeqAt.shaped d = true ∧ SeqAt.shaped (.tuple ds) = true ∧ Q (.bl (ds.any fun z => PyData.eqv z d)) H
theorem op_inT {X : Cx} (hu : X.A.units + 65 < cLine) : OpR X (compareOp .In) (rInT X.K) := by
  intro pins s σ H x y v u Q I rx ry h
  obtain ⟨d, ds, hd, he, sd, se, q⟩ := h
  obtain ⟨as, r1⟩ := Dp.reads I d x v hd rx
  obtain ⟨bs, r2⟩ := Dp.reads I (.tuple ds) y u he ry
  exact SeqAt.in_tuple_reads r2 r1 (SeqAt.canLay_of_shaped se) (SeqAt.canLay_of_shaped sd) (room_in_shaped sd hu) ⟨.bl _, H, I, rfl, q⟩
end Cm
namespace K06
open PySem L2 Cm
/-- the module's words for truths and none -/
structure Glb (K : PySem.W.Frag) (mg : Str → Option Value) : Prop where
  tr : ∃ a : Addr, mg "TRUE" = some (.ref a) ∧ ∀ H, SqT K H a [.str "true"]
  fa : ∃ a : Addr, mg "FALSE" = some (.ref a) ∧ ∀ H, SqT K H a [.str "false"]
  no : ∃ a : Addr, mg "NONE" = some (.ref a) ∧ ∀ H, SqT K H a [.str "none"]
  gr : ∃ k : Tok, mg "GREATEST" = some (.int 1000000000 k)
abbrev conW : List Str := ["true", "false", "none"]
abbrev refW : List Str := ["pair", "fun", "rest"]
/-- is v a value, by its form -/
inductive Vl (K : PySem.W.Frag) (H : Hp) : V → Bool → Prop
  | int (n : Int) : Vl K H (.int n) (decide (-1000000000 ≤ n) && decide (n ≤ 1000000000))
  | oth {v : V} {t : Value} {b1 b2 : Bool} (ty : TyX K H v t) (k1 : PySem.W.kitOne K t (.type "int") = some b1) (k2 : PySem.W.kitOne K t (.type "bool") = some b2) (hb : (b1 && !b2) = false) (k3 : PySem.W.kitOne K t (.type "tuple") = some false) : Vl K H v false
  | nil {a : Addr} (h : SqT K H a []) : Vl K H (.ref a) false
  | hd {a : Addr} {x : V} {xs : List V} {t : Value} (h : SqT K H a (x :: xs)) (ty : TyX K H x t) (k : PySem.W.kitOne K t (.type "str") = some false) : Vl K H (.ref a) false
  | one {a : Addr} {c : Str} (h : SqT K H a [.str c]) (hc : SeqAt.shaped (.tuple [.str c]) = true) : Vl K H (.ref a) (decide (c ∈ conW))
  | long {a : Addr} {c : Str} {xs : List V} (h : SqT K H a (.str c :: xs)) (l : 2 ≤ xs.length) : Vl K H (.ref a) false
  | nw {a : Addr} {c : Str} {x : V} (h : SqT K H a [.str c, x]) (n : ¬ c ∈ refW) : Vl K H (.ref a) false
  | two {a : Addr} {c : Str} {x : V} {t : Value} {b1 b2 : Bool} (h : SqT K H a [.str c, x]) (n : c ∈ refW) (ty : ∀ H', Same H H' → TyX K H' x t) (k1 : PySem.W.kitOne K t (.type "int") = some b1) (k2 : PySem.W.kitOne K t (.type "bool") = some b2) (hb : (b1 && !b2) = false) : Vl K H (.ref a) false
  | ref {a : Addr} {c : Str} {n : Int} (h : SqT K H a [.str c, .int n]) (m : c ∈ refW) : Vl K H (.ref a) (decide (1 ≤ n))
theorem eqv_con (x c : Str) : PyData.eqv (.tuple [.str x]) (.tuple [.str c]) = decide (c = x) := by
  show ((x == c) && true) = _
  rw [Bool.and_true]
  by_cases q : c = x
  · rw [q]; simp
  · have : ¬ x = c := fun z => q z.symm
    simp [q, this]
theorem any_con (c : Str) : ([PyData.tuple [.str "true"], .tuple [.str "false"], .tuple [.str "none"]].any fun z => PyData.eqv z (.tuple [.str c])) = decide (c ∈ conW) := by
  simp only [List.any_cons, List.any_nil, eqv_con, Bool.or_false, List.mem_cons, List.not_mem_nil, or_false, Bool.decide_or]
def spVal (K : PySem.W.Frag) : Sp := fun vs H Q _ => ∃ (v : V) (b : Bool), vs = [v] ∧ Vl K H v b ∧ ∀ H', Same H H' → Q (.bl b) H'
section
variable {P : Program} {w : World} {K : PySem.W.Frag} {mg : Str → Option Value} {base : Heap}
abbrev s_p_is_value : Stmt := top 13
abbrev N_p_is_value : List Str := ["thing"]
theorem sc_p_is_value : FnScope N_p_is_value ["thing"] (defScope s_p_is_value) := ⟨rfl, rfl, rfl, by decide +kernel, rfl, by decide +kernel, by decide +kernel⟩
theorem ok_is_value (T : Txt mg) (ts : mg "str" = none) (U : Glb K mg) (c_p_is_whole : Cl P w K mg base 1 "is_whole" (spWhole K)) (D : At K mg "is_value" s_p_is_value ["thing"]) : Cl P w K mg base 2 "is_value" (spVal K) := by
  obtain ⟨⟨aT, mT, hT⟩, ⟨aF, mF, hF⟩, ⟨aN, mN, hN⟩, ⟨tk, mG⟩⟩ := U
  refine cl_of (k := 1) D sc_p_is_value (fun vs H Q E h => ?_) fun f cdv A outer s H vs Q E hr h => ?_
  · obtain ⟨v, b, rfl, _⟩ := h
    rfl
  · obtain ⟨v, b, rfl, hv, k⟩ := h
    refine ⟨_, (pss_cons (ps_if (pt_val (pe_c c_p_is_whole hr (by decide) (by rfl) (pa_cons (pv 0) pa_nil)))
        (pss_one (ps_ret (pe_chain op_le op_le (pe_un un_neg (pe_glob (v := .int 1000000000) (by rfl) mG ⟨_, rfl⟩)) (pv 0) (pe_glob (v := .int 1000000000) (by rfl) mG ⟨_, rfl⟩))))
        pss_nil)
      (pss_cons (ps_if (PW.pt (pw_or (pt_not (pt_val (pe_callB call_isi (by rfl) T.isinstance (by decide +kernel) (pa_cons (pv 0) (pa_cons (pe_bltn (v := .ty "tuple") (by rfl) T.tuple (by rfl) (show RelV (.ty "tuple") (.type "tuple") from rfl)) pa_nil))))) (pw_or (pt_not (pt_truth (pv 0) (by intro _; rfl))) (pw_or1 (pt_not (pt_val (pe_callB call_isi (by rfl) T.isinstance (by decide +kernel) (pa_cons (pe_ix ix_tup (pv 0) pe_int (fun _ _ => rfl)) (pa_cons (pe_bltn (v := .ty "str") (by rfl) ts (by rfl) (show RelV (.ty "str") (.type "str") from rfl)) pa_nil)))))))))
        (pss_one (ps_ret pe_bl))
        pss_nil)
      (pss_cons (ps_if (pt_cmpR op_eq (pe_callB call_len_seq (by rfl) T.len (by decide +kernel) (pa_cons (pv 0) pa_nil)) pe_int (nomark _))
        (pss_one (ps_ret (pe_cmpR (op_inT (room65 hr)) (pv 0) (pe_tup (pa_cons (pe_glob (v := .ref aT) (by rfl) mT rfl) (pa_cons (pe_glob (v := .ref aF) (by rfl) mF rfl) (pa_cons (pe_glob (v := .ref aN) (by rfl) mN rfl) pa_nil)))) (by rfl))))
        pss_nil)
      (pss_one (ps_ret (pe_and (pe_cmpR op_eq (pe_callB call_len_seq (by rfl) T.len (by decide +kernel) (pa_cons (pv 0) pa_nil)) pe_int (nomark _)) (pe_and (pe_inW (pe_ix ix_tup (pv 0) pe_int (fun _ _ => rfl)) (.cons (.cons (.cons .nil))) (show 3 ≤ sizeLine by decide) (by rfl)) (pe_and (pe_c c_p_is_whole hr (by decide) (by rfl) (pa_cons (pe_ix ix_tup (pv 0) pe_int (fun _ _ => rfl)) pa_nil)) (pe_one (pe_cmpR op_ge (pe_ix ix_tup (pv 0) pe_int (fun _ _ => rfl)) pe_int (nomark _))))))))))), ?_⟩
    cases hv with
    | int n =>
      refine ⟨_, rfl, _, _, true, false, rfl, .base (.int _), rfl, rfl, _, rfl, ?_⟩
      refine iteT ⟨_, rfl, _, rfl, _, _, rfl, rfl, _, rfl, ?_⟩
      by_cases z : -1000000000 ≤ n
      · rw [decide_eq_true z]
        refine iteT ⟨_, _, rfl, rfl, ?_⟩
        have := k H (Same.refl H)
        rw [decide_eq_true z] at this
        exact this
      · rw [decide_eq_false z]
        refine iteF ?_
        have := k H (Same.refl H)
        rw [decide_eq_false z] at this
        exact this
    | oth ty k1 k2 hb k3 =>
      refine ⟨_, rfl, _, _, _, _, rfl, ty, k1, k2, _, rfl, ?_⟩
      rw [hb]
      refine iteF ⟨_, rfl, _, _, _, _, false, rfl, .ty _, ty, k3, _, rfl, ?_⟩
      exact iteT (k H (Same.refl H))
    | @nil a h =>
      refine ⟨_, rfl, _, _, false, false, rfl, tyx_tup h, rfl, rfl, _, rfl, ?_⟩
      refine iteF ⟨_, rfl, _, _, _, _, true, rfl, .ty _, tyx_tup h, kit_tup, _, rfl, ?_⟩
      refine iteF ⟨_, rfl, false, .inr (.inl ⟨_, h, rfl⟩), ?_⟩
      exact iteT (k H (Same.refl H))
    | @hd a x xs t h ty k' =>
      refine ⟨_, rfl, _, _, false, false, rfl, tyx_tup h, rfl, rfl, _, rfl, ?_⟩
      refine iteF ⟨_, rfl, _, _, _, _, true, rfl, .ty _, tyx_tup h, kit_tup, _, rfl, ?_⟩
      refine iteF ⟨_, rfl, true, .inr (.inl ⟨_, h, rfl⟩), ?_⟩
      refine iteF ⟨_, rfl, a, _, _, _, rfl, rfl, h, atI_nat (j := 0) rfl, _, _, _, _, false, rfl, .ty _, ty, k', _, rfl, ?_⟩
      exact iteT (k H (Same.refl H))
    | @one a c h hc =>
      refine ⟨_, rfl, _, _, false, false, rfl, tyx_tup h, rfl, rfl, _, rfl, ?_⟩
      refine iteF ⟨_, rfl, _, _, _, _, true, rfl, .ty _, tyx_tup h, kit_tup, _, rfl, ?_⟩
      refine iteF ⟨_, rfl, true, .inr (.inl ⟨_, h, rfl⟩), ?_⟩
      refine iteF ⟨_, rfl, a, _, _, _, rfl, rfl, h, atI_nat (j := 0) rfl, _, _, _, _, true, rfl, .ty _, .base (.str _), rfl, _, rfl, ?_⟩
      refine iteF ⟨_, rfl, a, _, rfl, .inr h, rfl, _, rfl, ?_⟩
      refine iteT ⟨_, rfl, by show 3 ≤ sizeLine; decide, fun q hq => ?_⟩
      have s1 := same_new (o := .tup [V.ref aT, V.ref aF, V.ref aN]) hq
      refine ⟨.tuple [.str c], [.tuple [.str "true"], .tuple [.str "false"], .tuple [.str "none"]], .tup (sqt_same s1 h) (.cons (.str _) .nil), .tup (.inl (.inl upd_same)) (.cons (.tup (hT _) (.cons (.str _) .nil)) (.cons (.tup (hF _) (.cons (.str _) .nil)) (.cons (.tup (hN _) (.cons (.str _) .nil)) .nil))), hc, by decide +kernel, ?_⟩
      rw [any_con]
      exact k _ s1
    | @long a c xs h l =>
      refine ⟨_, rfl, _, _, false, false, rfl, tyx_tup h, rfl, rfl, _, rfl, ?_⟩
      refine iteF ⟨_, rfl, _, _, _, _, true, rfl, .ty _, tyx_tup h, kit_tup, _, rfl, ?_⟩
      refine iteF ⟨_, rfl, true, .inr (.inl ⟨_, h, rfl⟩), ?_⟩
      refine iteF ⟨_, rfl, a, _, _, _, rfl, rfl, h, atI_nat (j := 0) rfl, _, _, _, _, true, rfl, .ty _, .base (.str _), rfl, _, rfl, ?_⟩
      have e1 : decide (V.int (((V.str c :: xs).length : Nat) : Int) = V.int 1) = false := decide_eq_false fun z => by
        have := V.int.inj z
        rw [List.length_cons] at this
        omega
      refine iteF ⟨_, rfl, a, _, rfl, .inr h, rfl, _, rfl, ?_⟩
      rw [e1]
      have e2 : decide (V.int (((V.str c :: xs).length : Nat) : Int) = V.int 2) = false := decide_eq_false fun z => by
        have := V.int.inj z
        rw [List.length_cons] at this
        omega
      refine iteF ⟨_, rfl, a, _, rfl, .inr h, rfl, _, rfl, ?_⟩
      rw [e2]
      exact iteF (k H (Same.refl H))
    | @nw a c x h n =>
      refine ⟨_, rfl, _, _, false, false, rfl, tyx_tup h, rfl, rfl, _, rfl, ?_⟩
      refine iteF ⟨_, rfl, _, _, _, _, true, rfl, .ty _, tyx_tup h, kit_tup, _, rfl, ?_⟩
      refine iteF ⟨_, rfl, true, .inr (.inl ⟨_, h, rfl⟩), ?_⟩
      refine iteF ⟨_, rfl, a, _, _, _, rfl, rfl, h, atI_nat (j := 0) rfl, _, _, _, _, true, rfl, .ty _, .base (.str _), rfl, _, rfl, ?_⟩
      refine iteF ⟨_, rfl, a, _, rfl, .inr h, rfl, _, rfl, ?_⟩
      refine iteF ⟨_, rfl, a, _, rfl, .inr h, rfl, _, rfl, ?_⟩
      refine iteT ⟨_, rfl, a, _, _, _, rfl, rfl, h, atI_nat (j := 0) rfl, rfl, fun H2 s2 => ?_⟩
      rw [in_words]
      refine ⟨_, rfl, ?_⟩
      rw [decide_eq_false n]
      exact iteF (k _ s2)
    | @two a c x t b1 b2 h n ty k1 k2 hb =>
      refine ⟨_, rfl, _, _, false, false, rfl, tyx_tup h, rfl, rfl, _, rfl, ?_⟩
      refine iteF ⟨_, rfl, _, _, _, _, true, rfl, .ty _, tyx_tup h, kit_tup, _, rfl, ?_⟩
      refine iteF ⟨_, rfl, true, .inr (.inl ⟨_, h, rfl⟩), ?_⟩
      refine iteF ⟨_, rfl, a, _, _, _, rfl, rfl, h, atI_nat (j := 0) rfl, _, _, _, _, true, rfl, .ty _, .base (.str _), rfl, _, rfl, ?_⟩
      refine iteF ⟨_, rfl, a, _, rfl, .inr h, rfl, _, rfl, ?_⟩
      refine iteF ⟨_, rfl, a, _, rfl, .inr h, rfl, _, rfl, ?_⟩
      refine iteT ⟨_, rfl, a, _, _, _, rfl, rfl, h, atI_nat (j := 0) rfl, rfl, fun H2 s2 => ?_⟩
      rw [in_words]
      refine ⟨_, rfl, ?_⟩
      rw [decide_eq_true n]
      refine iteT ⟨_, rfl, a, _, _, _, rfl, rfl, sqt_same s2 h, atI_nat (j := 1) rfl, x, t, b1, b2, rfl, ty _ s2, k1, k2, _, rfl, ?_⟩
      rw [hb]
      exact iteF (k _ s2)
    | @ref a c n h m =>
      refine ⟨_, rfl, _, _, false, false, rfl, tyx_tup h, rfl, rfl, _, rfl, ?_⟩
      refine iteF ⟨_, rfl, _, _, _, _, true, rfl, .ty _, tyx_tup h, kit_tup, _, rfl, ?_⟩
      refine iteF ⟨_, rfl, true, .inr (.inl ⟨_, h, rfl⟩), ?_⟩
      refine iteF ⟨_, rfl, a, _, _, _, rfl, rfl, h, atI_nat (j := 0) rfl, _, _, _, _, true, rfl, .ty _, .base (.str _), rfl, _, rfl, ?_⟩
      refine iteF ⟨_, rfl, a, _, rfl, .inr h, rfl, _, rfl, ?_⟩
      refine iteF ⟨_, rfl, a, _, rfl, .inr h, rfl, _, rfl, ?_⟩
      refine iteT ⟨_, rfl, a, _, _, _, rfl, rfl, h, atI_nat (j := 0) rfl, rfl, fun H2 s2 => ?_⟩
      rw [in_words]
      refine ⟨_, rfl, ?_⟩
      rw [decide_eq_true m]
      refine iteT ⟨_, rfl, a, _, _, _, rfl, rfl, sqt_same s2 h, atI_nat (j := 1) rfl, .int n, _, true, false, rfl, .base (.int _), rfl, rfl, _, rfl, ?_⟩
      refine iteT ⟨_, rfl, a, _, _, _, rfl, rfl, sqt_same s2 h, atI_nat (j := 1) rfl, _, _, rfl, rfl, ?_⟩
      exact k _ s2
end
end K06

namespace K06
open PySem L2 Cm
theorem flat_intV (l : List Int) : (l.map V.int).all flatV = true := by
  induction l with
  | nil => rfl
  | cons a l ih => exact ih
theorem in_ints {l : List Int} {b : Int} : inV (.int b) (l.map V.int) = decide (b ∈ l) := by
  induction l with
  | nil => rfl
  | cons a l ih =>
    show (eqV (V.int a) (V.int b) || inV (.int b) (l.map V.int)) = _
    rw [ih]
    have e : eqV (V.int a) (V.int b) = decide (b = a) := by
      show (a == b) = _
      by_cases q : b = a
      · rw [q]; simp
      · have : ¬ a = b := fun z => q z.symm
        simp [q, this]
    rw [e]
    by_cases q : b = a <;> simp [q]
theorem range_in (F ys : List Int) (f : Int → PyData) : (List.range ys.length).filterMap (fun i => (ys[i]?).bind fun b => if decide (b ∈ F) = true then some (f b) else none) = (ys.filter fun b => decide (b ∈ F)).map f := by
  induction ys with
  | nil => rfl
  | cons a l ih =>
    rw [List.length_cons, List.range_succ_eq_map, List.filterMap_cons, List.filter_cons, List.filterMap_map]
    by_cases z : a ∈ F
    · simp only [List.getElem?_cons_zero, Option.bind_some, decide_eq_true z, if_pos]
      exact congrArg _ ih
    · simp only [List.getElem?_cons_zero, Option.bind_some, decide_eq_false z]
      exact ih
theorem ints_sh (l : List Int) : SeqAt.shaped (.list (l.map PyData.int)) = true := (Lay.lst (n := 0) fun d m => by
  obtain ⟨x, _, rfl⟩ := List.mem_map.mp m
  exact .int x 0).sh (by decide)
theorem range_ded (l : List Int) : (List.range l.length).filterMap (fun i => (l[i]?).bind fun x => if decide (x ∈ l.take i) = true then none else some (PyData.int x)) = (ded l).map PyData.int := by
  unfold ded
  rw [List.map_filterMap]
  refine fm_cg fun i m => ?_
  cases l[i]? with
  | none => rfl
  | some x =>
    by_cases z : x ∈ l.take i
    · simp [z]
    · simp [z]
theorem ks_listK {X : Cx} {K : PySem.W.Frag} (h : X.K = K := by rfl) : SlR X (rSlL K) := by subst h; exact sl_list
section
variable {P : Program} {w : World} {K : PySem.W.Frag} {mg : Str → Option Value} {base : Heap}
theorem ok_l_due (T : Txt mg) (c_l_refs : Cl P w K mg base 1 "_law_refs" (spRe K)) (c_l_named : Cl P w K mg base 2 "_law_named" (spBo K)) (D : At K mg "_law_due" s_l_due ["_law_callee", "_law_handed", "_law_frames_here", "_law_things"]) : Cl P w K mg base 3 "_law_due" (spDue K) := by
  refine cl_of (k := 2) D sc_l_due (fun vs H Q E h => ?_) fun f cdv A outer s H vs Q E hr h => ?_
  · obtain ⟨cv, hd, fr, d, c, ws, us, fs, es, kvs, rfl, _⟩ := h
    rfl
  · obtain ⟨cv, hd, fr, d, c, ws, us, fs, es, kvs, rfl, hcv, hhd, hus, hwl, hfr, hfl, th, wd, k⟩ := h
    have hu := hu_of hr
    refine ⟨_, (pss_cons (ps_set (i := 4) sc_l_due.nd rfl (Or.inr rfl) (pe_op op_cat (pe_c c_l_refs hr (by decide) (by rfl) (pa_cons (pv 0) pa_nil)) (pe_callTy call_list_of (by rfl) T.list (by decide +kernel) (pa_cons (pv 2) pa_nil))))
      (pss_mid (ps_for PassesOwn.never rfl (pi_tup (pv 1)) (pg_name (i := 5) sc_l_due.nd rfl (Or.inl rfl))
        (pss_one (ps_set (i := 4) sc_l_due.nd rfl (Or.inr rfl) (pe_op op_cat (pv 4) (pe_c c_l_refs hr (by decide) (by rfl) (pa_cons (pv 5) pa_nil))))))
      (pss_mid (ps_for PassesOwn.never rfl (pi_range1 (by rfl) T.range (pa_cons (pe_op op_add (pe_callB call_lenD (by rfl) T.len (by decide +kernel) (pa_cons (pv 3) pa_nil)) pe_int) pa_nil)) (pg_name (i := 6) sc_l_due.nd rfl (Or.inl rfl))
        (pss_cons (ps_set (i := 7) sc_l_due.nd rfl (Or.inr rfl) (pe_lst pa_nil))
        (pss_mid (ps_for PassesOwn.never rfl (pi_list (pv 4)) (pg_name (i := 8) sc_l_due.nd rfl (Or.inl rfl))
          (pss_one (ps_set (i := 7) sc_l_due.nd rfl (Or.inr rfl) (pe_op op_cat (pv 7) (pe_lc (own := [("_law_each", 9)]) rfl sc_l_due.nd (pi_list (pe_c c_l_named hr (by decide) (by rfl) (pa_cons (pe_dget hu (pv 3) (pv 8) (fun _ _ => rfl)) pa_nil))) (blkOk_by (N := N_l_due) (sc := defScope s_l_due) (by decide +kernel))
      (fun _ _ _ _ _ => (pg_name (i := 9) sc_l_due.nd rfl (Or.inl rfl)))
      (fun _ _ _ _ _ => (pts_one (pt_cmpR (ko_notIn (K := K)) (pv 9) (pv 4) (by rfl))))
      (fun _ _ _ _ _ => (pv 9)))))))
        (pss_mid (ps_if (pt_cmpR (op_eqD hr.units) (pv 7) (pe_lst pa_nil) (nomark _))
          (pss_one ps_break)
          pss_nil)
        (pss_one (ps_set (i := 4) sc_l_due.nd rfl (Or.inr rfl) (pe_op op_cat (pv 4) (pe_lc (own := [("_law_k", 10), ("_law_each", 9)]) (g := gTup K 2 (gCons (gName 10) (gCons (gName 9) gNil))) rfl sc_l_due.nd (pi_enum (by rfl) T.enumerate (pa_cons (pv 7) pa_nil)) (blkOk_by (N := N_l_due) (sc := defScope s_l_due) (by decide +kernel))
      (fun _ _ _ _ _ => (pg_tup rfl (pgs_cons (pg_name (i := 10) sc_l_due.nd rfl (Or.inl rfl)) (pgs_cons (pg_name (i := 9) sc_l_due.nd rfl (Or.inl rfl)) pgs_nil))))
      (fun _ _ _ _ _ => (pts_one (pt_cmpR (ko_notIn (K := K)) (pv 9) (pe_slice (ks_listK (K := K)) (pv 7) po_none (po_some (pv 10))) (by rfl))))
      (fun _ _ _ _ _ => (pv 9))))))))))
      (pss_one (ps_ret (pe_tupleOf (by rfl) T.tuple (pe_lc (own := [("_law_birth", 8)]) rfl sc_l_due.nd (pi_list (pe_callB (call_sortedK rfl) (by rfl) T.sorted (by decide +kernel) (pa_cons (pe_keys (pv 3)) pa_nil))) (blkOk_by (N := N_l_due) (sc := defScope s_l_due) (by decide +kernel))
      (fun _ _ _ _ _ => (pg_name (i := 8) sc_l_due.nd rfl (Or.inl rfl)))
      (fun _ _ _ _ _ => (pts_one (pt_cmpR (ko_in (K := K)) (pv 8) (pv 4) (by rfl))))
      (fun _ _ _ _ _ => (pe_tup (pa_cons (pv 8) (pa_cons (pe_dget hu (pv 3) (pv 8) (fun _ _ => rfl)) pa_nil))))))))))), ?_⟩
    have hul := DpAll.len hus
    rw [List.length_map] at hul
    refine ⟨_, rfl, cv, c, rfl, hcv, fun r1 H1 s1 _ f1 => ⟨_, rfl, fr, _, rfl, .inr (sqt_same s1 hfr), fun l hl => ?_⟩⟩
    have c1 : c.refs.length ≤ 1 := by cases c <;> first | exact Nat.le_refl 1 | exact Nat.zero_le 1
    have s2 := s1.trans (same_new (o := .lst (fs.map V.int)) hl)
    have f2 := (same_new (o := .lst (fs.map V.int)) hl) _ _ f1
    have g2 : upd H1 l (.lst (fs.map V.int)) l = some (.lst (fs.map V.int)) := upd_same
    generalize upd H1 l (.lst (fs.map V.int)) = H2 at *
    refine ⟨r1, l, _, _, rfl, rfl, f2, g2, Nat.le_trans (show (c.refs.map V.int).length + (fs.map V.int).length ≤ 200 by rw [List.length_map, List.length_map]; omega) (by decide), fun A0 hA0 => ?_⟩
    have s3 := s2.trans (same_new (o := .lst (c.refs.map V.int ++ fs.map V.int)) hA0)
    have f3 : upd H2 A0 (.lst (c.refs.map V.int ++ fs.map V.int)) A0 = some (.lst ((c.refs ++ fs).map V.int)) := by rw [upd_same, List.map_append]
    generalize upd H2 A0 (.lst (c.refs.map V.int ++ fs.map V.int)) = H3 at *
    refine ⟨fun σ' H' => ∃ (v5 : Option V) (A : Addr), σ' = [some cv, some (.ref hd), some (.ref fr), some (.ref d), some (.ref A), v5, none, none, none, none, none] ∧ Same H H' ∧ H' A = some (.lst ((c.refs ++ fs ++ ws.flatMap W.refs).map V.int)), ?_, ?_⟩
    · refine ⟨_, rfl, hd, rfl, ⟨_, sqt_same s3 hhd⟩, ?_⟩
      refine for_it (walk_tup (K := K) (a := hd) (xs := us)) (fun i σ' H' => ∃ (v5 : Option V) (A : Addr), σ' = [some cv, some (.ref hd), some (.ref fr), some (.ref d), some (.ref A), v5, none, none, none, none, none] ∧ Same H H' ∧ H' A = some (.lst ((c.refs ++ fs ++ (ws.take i).flatMap W.refs).map V.int)))
        ⟨none, A0, rfl, s3, by rw [List.take_zero, List.flatMap_nil, List.append_nil]; exact f3⟩ (fun _ _ _ _ z => by obtain ⟨_, _, _, z, _⟩ := z; exact sqt_same z hhd) ?_ ?_
      · rintro i x σ H4' H4 hi ⟨v5, A, rfl, s4, hA⟩ ⟨rfl, ex⟩
        obtain ⟨dd, g1, g2⟩ := DpAll.atV hus ex
        obtain ⟨y, ey, rfl⟩ := map_at g1
        refine ⟨_, rfl, _, rfl, x, y, rfl, dp_same s4 _ _ g2, fun r H5 s5 _ hr5 => ?_⟩
        have hy1 : y.refs.length ≤ 1 := by cases y <;> first | exact Nat.le_refl 1 | exact Nat.zero_le 1
        have ht1 := refs_len (ws.take i)
        have ht2 : (ws.take i).length ≤ 100 := by rw [List.length_take]; omega
        refine ⟨A, r, _, _, rfl, rfl, s5 _ _ hA, hr5, Nat.le_trans (show ((c.refs ++ fs ++ (ws.take i).flatMap W.refs).map V.int).length + (y.refs.map V.int).length ≤ 400 by
          rw [List.length_map, List.length_map, List.length_append, List.length_append]; omega) (by decide), fun q hq => ?_⟩
        have s6 := same_new (o := .lst ((c.refs ++ fs ++ (ws.take i).flatMap W.refs).map V.int ++ y.refs.map V.int)) hq
        refine ⟨_, q, rfl, (s4.trans s5).trans s6, ?_⟩
        rw [upd_same, (takeNext ey).1, List.flatMap_append, ← List.append_assoc, List.map_append]
        simp
      · rintro σ H4 ⟨v5, A, rfl, s4, hA⟩
        refine ⟨v5, A, rfl, s4, ?_⟩
        rw [hul, List.take_length] at hA
        exact hA
    rintro σ1 H4 ⟨v5, A, rfl, s4, hA⟩
    obtain ⟨ro, ero⟩ : ∃ ro, ro = c.refs ++ fs ++ ws.flatMap W.refs := ⟨_, rfl⟩
    rw [← ero] at hA
    have mro : ∀ b, b ∈ ro ↔ b ∈ c.refs ++ ws.flatMap W.refs ++ fs := fun b => by
      rw [ero]
      simp only [List.mem_append]
      constructor
      · rintro ((h | h) | h) <;> simp [h]
      · rintro ((h | h) | h) <;> simp [h]
    refine ⟨fun σ' H' => ∃ (v5 v6 v7 v8 v9 v10 : Option V) (A : Addr) (F : List Int), σ' = [some cv, some (.ref hd), some (.ref fr), some (.ref d), some (.ref A), v5, v6, v7, v8, v9, v10] ∧ Same H H' ∧ H' A = some (.lst (F.map V.int)) ∧ ∀ b, b ∈ F ↔ Reach es ro b, ?_, ?_⟩
    · have kvl : kvs.length = es.length := by
        have := congrArg List.length th.ks
        rwa [List.length_map, List.length_map] at this
      have eslen := wd.len
      refine ⟨_, rfl, d, kvs, rfl, s4 _ _ th.at_, _, _, rfl, rfl, _, rfl, by omega, by omega, ?_⟩
      refine for_it (walk_upto (n := ((kvs.length : Int) + 1).toNat)) (fun i σ' H' => ∃ (v5 v6 v7 v8 v9 v10 : Option V) (A : Addr) (N : List Int), σ' = [some cv, some (.ref hd), some (.ref fr), some (.ref d), some (.ref A), v5, v6, v7, v8, v9, v10] ∧ Same H H' ∧ H' A = some (.lst ((ro ++ N).map V.int)) ∧ N.Nodup ∧ (∀ b ∈ N, b ∈ es.map (·.1)) ∧ (∀ b ∈ N, Reach es ro b) ∧ i ≤ N.length)
        ⟨v5, none, none, none, none, none, A, [], rfl, s4, by rw [List.append_nil]; exact hA, List.nodup_nil, (fun _ m => by cases m), (fun _ m => by cases m), Nat.le_refl _⟩ (fun _ _ _ _ _ => trivial) ?_ ?_
      · rintro i x σ H6' H6 hi ⟨v5, v6, v7, v8, v9, v10, A, N, rfl, s6, hA6, ndN, kN, rN, iN⟩ ⟨rfl, rfl⟩
        have nl : N.length ≤ 60 := by
          have h1 := sub_len ndN kN
          rw [List.length_map] at h1
          omega
        have rol : ro.length ≤ 300 := by
          have := refs_len ws
          rw [ero, List.length_append, List.length_append]
          omega
        obtain ⟨F, eF⟩ : ∃ F, F = ro ++ N := ⟨_, rfl⟩
        rw [← eF] at hA6
        have fl : F.length ≤ 360 := by rw [eF, List.length_append]; omega
        have FK : ∀ b ∈ F, b ∈ es.map (·.1) := fun b m => by
          rw [eF] at m
          exact (List.mem_append.mp m).elim (fun z => wd.ro b ((mro b).mp z)) (kN b)
        have FR : ∀ b ∈ F, Reach es ro b := fun b m => by
          rw [eF] at m
          exact (List.mem_append.mp m).elim (fun z => .root z) (rN b)
        refine ⟨by show 0 ≤ sizeLine; decide, fun M0 hM0 => ?_⟩
        have s7 := s6.trans (same_new (o := .lst []) hM0)
        have hA7 := (same_new (o := .lst []) hM0) _ _ hA6
        have hM7 : upd H6 M0 (.lst []) M0 = some (.lst []) := upd_same
        generalize upd H6 M0 (.lst []) = H7 at *
        refine ⟨fun σ' H' => ∃ (v8 : Option V) (M : Addr) (more : List Int), σ' = [some cv, some (.ref hd), some (.ref fr), some (.ref d), some (.ref A), v5, some (.int (i : Nat)), some (.ref M), v8, v9, v10] ∧ Same H H' ∧ H' A = some (.lst (F.map V.int)) ∧ H' M = some (.lst (more.map V.int)) ∧ more.length ≤ 15000 ∧ (∀ x ∈ more, x ∈ es.map (·.1) ∧ Reach es ro x ∧ ¬ x ∈ F) ∧ (∀ a ∈ F, ∀ t, (a, t) ∈ es → ∀ x ∈ t.nm, x ∈ F ∨ x ∈ more), ?_, ?_⟩
        · refine ⟨_, rfl, A, rfl, ⟨_, .inl (.inl hA7)⟩, ?_⟩
          refine for_it (walk_list (K := K) (a := A) (xs := F.map V.int)) (fun j σ' H' => ∃ (v8 : Option V) (M : Addr) (more : List Int), σ' = [some cv, some (.ref hd), some (.ref fr), some (.ref d), some (.ref A), v5, some (.int (i : Nat)), some (.ref M), v8, v9, v10] ∧ Same H H' ∧ H' A = some (.lst (F.map V.int)) ∧ H' M = some (.lst (more.map V.int)) ∧ more.length ≤ 41 * j ∧ (∀ x ∈ more, x ∈ es.map (·.1) ∧ Reach es ro x ∧ ¬ x ∈ F) ∧ (∀ a ∈ F.take j, ∀ t, (a, t) ∈ es → ∀ x ∈ t.nm, x ∈ F ∨ x ∈ more))
            ⟨v8, M0, [], rfl, s7, hA7, hM7, Nat.zero_le _, (fun _ m => by cases m), (fun _ m => by rw [List.take_zero] at m; cases m)⟩ (fun _ _ _ _ z => by obtain ⟨_, _, _, _, _, z, _⟩ := z; exact .inl (.inl z)) ?_ ?_
          · rintro j x σ H8' H8 hj ⟨v8, M, more, rfl, s8, hA8, hM8, ml, mk, mc⟩ ⟨rfl, ex⟩
            obtain ⟨a, ea, rfl⟩ := map_at ex
            have ma := List.mem_of_getElem? ea
            have jl : j < 360 := by
              have := (List.getElem?_eq_some_iff.mp ea).1
              omega
            obtain ⟨v, t, g1, g2, g3, g4⟩ := ths_get (d := d) th.ks (dps_same s8 _ _ th.vs) (FK a ma)
            have g := DGet.k (k := Sum.inl a) (s8 _ _ th.at_)
            rw [g1] at g
            have szt := wd.sz (a, t) g2
            have nml : t.nm.length ≤ 41 := nm_len szt
            refine ⟨_, rfl, _, rfl, _, rfl, d, v, rfl, g, v, t, rfl, g3, szt, fun r H9 s9 _ e9 => ⟨r, rfl, ⟨_, .inl (.inl e9)⟩, fun Dc hDc => ?_⟩⟩
            have hA9 := s9 _ _ hA8
            refine lc_data (K := K) (walk_list (K := K) (a := r) (xs := t.nm.map V.int)) (fun i => (t.nm[i]?).bind fun x => if decide (x ∈ F) = true then none else some (PyData.int x)) hDc (by rw [List.length_map]; omega) (fun H' s => .inl (.inl (s _ _ e9))) (fun i _ d e => ?_) ?_ ?_
            · obtain ⟨x, _, e⟩ := Option.bind_eq_some_iff.mp e
              split at e
              · cases e
              · cases e; rfl
            · rintro i x H10' H10 hi s10 ⟨rfl, ex⟩ Q1 Q0 q1 q0
              obtain ⟨y, ey, rfl⟩ := map_at ex
              refine ⟨rfl, _, rfl, _, rfl, A, _, rfl, .inl (.inl (.inl (s10 _ _ hA9))), rfl, flat_intV _, _, rfl, ?_⟩
              show if (!inV (.int y) (F.map V.int)) = true then _ else _
              rw [in_ints]
              by_cases z : y ∈ F
              · rw [decide_eq_true z]
                refine iteF (q0 _ ?_ (Same.refl _))
                rw [ey]
                show (if decide (y ∈ F) = true then none else some (PyData.int y)) = none
                rw [decide_eq_true z]
                rfl
              · rw [decide_eq_false z]
                refine iteT ⟨_, rfl, q1 _ _ (.int y) ?_ (Same.refl _) (.int _)⟩
                rw [ey]
                show (if decide (y ∈ F) = true then none else some (PyData.int y)) = _
                rw [decide_eq_false z]
                rfl
            · intro H10 acc s10 hacc ha
              rw [List.length_map, range_out] at ha
              have := dpAll_ints_inv ha
              subst this
              have fll : (t.nm.filter fun x => !decide (x ∈ F)).length ≤ 41 := Nat.le_trans (List.length_filter_le _ _) nml
              refine ⟨M, Dc, _, _, rfl, rfl, (s9.trans s10) _ _ hM8, hacc, Nat.le_trans (show (more.map V.int).length + ((t.nm.filter fun x => !decide (x ∈ F)).map V.int).length ≤ 15000 by rw [List.length_map, List.length_map]; omega) (by decide), fun q hq => ?_⟩
              have s11 := same_new (o := .lst (more.map V.int ++ (t.nm.filter fun x => !decide (x ∈ F)).map V.int)) hq
              refine ⟨_, q, more ++ t.nm.filter fun x => !decide (x ∈ F), rfl, ((s8.trans s9).trans s10).trans s11, ((s9.trans s10).trans s11) _ _ hA8, by rw [upd_same, List.map_append], by rw [List.length_append]; omega, fun x m => ?_, fun b mb t' mt x mx => ?_⟩
              · rcases List.mem_append.mp m with z | z
                · exact mk x z
                · obtain ⟨z1, z2⟩ := List.mem_filter.mp z
                  exact ⟨wd.cl (a, t) g2 x z1, .step (FR a ma) g2 z1, by simpa using z2⟩
              · rw [(takeNext ea).1] at mb
                rcases List.mem_append.mp mb with z | z
                · exact (mc b z t' mt x mx).imp id fun q => List.mem_append_left _ q
                · rw [List.mem_singleton.mp z] at mt
                  rw [one_thing wd.nd mt g2] at mx
                  by_cases q : x ∈ F
                  · exact .inl q
                  · exact .inr (List.mem_append_right _ (List.mem_filter.mpr ⟨mx, by rw [decide_eq_false q]; rfl⟩))
          · rintro σ H8 ⟨v8, M, more, rfl, s8, hA8, hM8, ml, mk, mc⟩
            rw [List.length_map] at ml mc
            rw [List.take_length] at mc
            exact ⟨v8, M, more, rfl, s8, hA8, hM8, by omega, mk, mc⟩
        rintro σ8 H8 ⟨v8, M, more, rfl, s8, hA8, hM8, ml, mk, mc⟩
        refine ⟨fun σ' H' => σ' = [some cv, some (.ref hd), some (.ref fr), some (.ref d), some (.ref A), v5, some (.int (i : Nat)), some (.ref M), v8, v9, v10] ∧ Same H H' ∧ H' A = some (.lst (F.map V.int)) ∧ H' M = some (.lst (more.map V.int)) ∧ more ≠ [], ?_, ?_⟩
        · refine ⟨_, rfl, by show 0 ≤ sizeLine; decide, fun p hp => ?_⟩
          have s9 := same_new (o := .lst []) hp
          refine ⟨.list (more.map PyData.int), .list [], .lst (.inl (.inl (s9 _ _ hM8))) (dpAll_ints more), .lst (.inl (.inl upd_same)) .nil, ints_sh more, by decide +kernel, _, rfl, ?_⟩
          cases more with
          | nil =>
            refine iteT ?_
            exact ⟨v5, _, _, v8, v9, v10, A, F, rfl, s8.trans s9, s9 _ _ hA8, closed_reach (fun b m => by rw [eF]; exact List.mem_append_left _ m) FR fun a ma t mt x mx => (mc a ma t mt x mx).elim id fun z => by cases z⟩
          | cons y ys => exact iteF ⟨rfl, s8.trans s9, s9 _ _ hA8, s9 _ _ hM8, by simp⟩
        rintro σ9 H9 ⟨rfl, s9, hA9, hM9, ne⟩
        refine ⟨_, rfl, _, rfl, M, _, rfl, .inl (.inl hM9), fun Dc hDc => ?_⟩
        refine lc_data (K := K) (walk_enum (K := K) (a := M) (xs := more.map V.int)) (fun i => (more[i]?).bind fun x => if decide (x ∈ more.take i) = true then none else some (PyData.int x)) hDc (by rw [List.length_map]; omega) (fun H' s => .inl (.inl (s _ _ hM9))) (fun i _ d e => ?_) ?_ ?_
        · obtain ⟨x, _, e⟩ := Option.bind_eq_some_iff.mp e
          split at e
          · cases e
          · cases e; rfl
        · rintro j x H10' H10 hj s10 ⟨T1, x1, x2, rfl, hT, rfl, e1, e2⟩ Q1 Q0 q1 q0
          cases e1
          obtain ⟨y, ey, rfl⟩ := map_at e2
          have sT := same_new (o := .tup [.int (j : Nat), .int y]) hT
          have hM10 := (s10.trans sT) _ _ hM9
          have hj' : j ≤ (more.map V.int).length := Nat.le_of_lt hj
          refine ⟨T1, _, rfl, .inl (.inl upd_same), rfl, _, _, rfl, _, _, rfl, rfl, rfl, ?_⟩
          refine ⟨_, rfl, _, rfl, _, rfl, _, rfl, M, _, rfl, .inl (.inl hM10), fun p hp => ?_⟩
          rw [cut_to hj']
          have s11 := same_new (o := .lst ((more.map V.int).take j)) hp
          refine ⟨p, (more.take j).map V.int, rfl, .inl (.inl (.inl (by rw [List.map_take]; exact upd_same))), rfl, flat_intV _, _, rfl, ?_⟩
          show if (!inV (.int y) ((more.take j).map V.int)) = true then _ else _
          rw [in_ints]
          by_cases z : y ∈ more.take j
          · rw [decide_eq_true z]
            refine iteF (q0 _ ?_ (sT.trans s11))
            rw [ey]
            show (if decide (y ∈ more.take j) = true then none else some (PyData.int y)) = none
            rw [decide_eq_true z]
            rfl
          · rw [decide_eq_false z]
            refine iteT ⟨_, rfl, q1 _ _ (.int y) ?_ (sT.trans s11) (.int _)⟩
            rw [ey]
            show (if decide (y ∈ more.take j) = true then none else some (PyData.int y)) = _
            rw [decide_eq_false z]
            rfl
        · intro H10 acc s10 hacc ha
          rw [List.length_map, range_ded] at ha
          have := dpAll_ints_inv ha
          subst this
          obtain ⟨dn, dm⟩ := ded_all _ more rfl
          have dk : ∀ x ∈ ded more, x ∈ es.map (·.1) ∧ Reach es ro x ∧ ¬ x ∈ F := fun x m => mk x ((dm x).mp m)
          have nd2 : (N ++ ded more).Nodup := by
            rw [List.nodup_append]
            refine ⟨ndN, dn, fun x m y my e => ?_⟩
            rw [e] at m
            exact (dk y my).2.2 (by rw [eF]; exact List.mem_append_right _ m)
          have k2 : ∀ b ∈ N ++ ded more, b ∈ es.map (·.1) := fun b m => (List.mem_append.mp m).elim (kN b) fun z => (dk b z).1
          have l2 : (N ++ ded more).length ≤ 60 := by
            have h1 := sub_len nd2 k2
            rw [List.length_map] at h1
            omega
          have dl : 0 < (ded more).length := by
            cases more with
            | nil => exact absurd rfl ne
            | cons y ys => exact List.length_pos_of_mem ((dm y).mpr List.mem_cons_self)
          rw [List.length_append] at l2
          refine ⟨A, Dc, _, _, rfl, rfl, s10 _ _ hA9, hacc, Nat.le_trans (show (F.map V.int).length + ((ded more).map V.int).length ≤ 1000 by rw [List.length_map, List.length_map]; omega) (by decide), fun q hq => ?_⟩
          have s11 := same_new (o := .lst (F.map V.int ++ (ded more).map V.int)) hq
          exact ⟨v5, _, _, v8, v9, v10, q, N ++ ded more, rfl, (s9.trans s10).trans s11, by rw [upd_same, ← List.append_assoc, ← eF, List.map_append], nd2, k2, fun b m => (List.mem_append.mp m).elim (rN b) fun z => (dk b z).2.1, by rw [List.length_append]; omega⟩
      · rintro σ H6 ⟨v5, v6, v7, v8, v9, v10, A, N, rfl, s6, hA6, ndN, kN, rN, iN⟩
        have h1 := sub_len ndN kN
        rw [List.length_map] at h1
        omega
    rintro σ5 H5 ⟨v5, v6, v7, v8, v9, v10, A1, F, rfl, s5, hF, mF⟩
    refine ⟨_, rfl, d, rfl, ⟨kvs, s5 _ _ th.at_⟩, fun rv hrv => ?_⟩
    have s6 := same_new (o := ViewO rv d) hrv
    have kl : (es.map (·.1)).length ≤ 60 := by rw [List.length_map]; exact wd.len
    refine ⟨rv, d, kvs, es.map (·.1), rfl, upd_same, s6 _ _ (s5 _ _ th.at_), by rw [th.ks, List.map_map]; rfl, by omega, fun ys p hp hs hn => ?_⟩
    have s7 := same_new (o := .lst (ys.map V.int)) hn
    have e7 : upd (upd H5 rv (ViewO rv d)) p (.lst (ys.map V.int)) p = some (.lst (ys.map V.int)) := upd_same
    have s57 := s6.trans s7
    generalize upd (upd H5 rv (ViewO rv d)) p (.lst (ys.map V.int)) = H7 at *
    have hyl : ys.length ≤ 60 := by rw [hp.length_eq]; exact kl
    refine ⟨p, rfl, ⟨_, .inl (.inl e7)⟩, fun Dc hDc => ?_⟩
    refine lc_data (K := K) (walk_list (K := K) (a := p) (xs := ys.map V.int)) (fun i => (ys[i]?).bind fun b => if decide (b ∈ F) = true then some (PyData.tuple [.int b, tOf es b]) else none) hDc (by rw [List.length_map]; omega) (fun H' s => .inl (.inl (s _ _ e7))) (fun i _ x e => ?_) ?_ ?_
    · obtain ⟨b, _, e⟩ := Option.bind_eq_some_iff.mp e
      split at e
      · cases e; simp [flatD, flatDs, flat_tOf]
      · cases e
    · rintro i x H8' H8 hi s8 ⟨rfl, ex⟩ Q1 Q0 q1 q0
      obtain ⟨b, eb, rfl⟩ := map_at ex
      have s58 := s57.trans s8
      refine ⟨rfl, _, rfl, _, rfl, A1, _, rfl, .inl (.inl (.inl (s58 _ _ hF))), rfl, flat_intV _, _, rfl, ?_⟩
      rw [in_ints]
      by_cases z : b ∈ F
      · have mk : b ∈ es.map (·.1) := hp.mem_iff.mp (List.mem_of_getElem? eb)
        have s08 := s5.trans s58
        obtain ⟨v, t, g1, g2, g3, g4⟩ := ths_get (d := d) th.ks (dps_same s08 _ _ th.vs) mk
        have g := DGet.k (k := Sum.inl b) (s08 _ _ th.at_)
        rw [g1] at g
        rw [decide_eq_true z]
        refine iteT ⟨_, rfl, _, rfl, _, rfl, d, v, rfl, g, by show 2 ≤ sizeLine; decide, fun q hq => ?_⟩
        have s9 := same_new (o := .tup [.int b, v]) hq
        refine q1 _ _ (.tuple [.int b, tOf es b]) ?_ s9 (.tup (.inl (.inl upd_same)) (.cons (.int _) (.cons (by rw [tOf_at g4]; exact dp_same s9 _ _ g3) .nil)))
        rw [eb]
        show (if decide (b ∈ F) = true then some (PyData.tuple [.int b, tOf es b]) else none) = _
        rw [decide_eq_true z]
        rfl
      · rw [decide_eq_false z]
        refine iteF (q0 _ ?_ (Same.refl _))
        rw [eb]
        show (if decide (b ∈ F) = true then some (PyData.tuple [.int b, tOf es b]) else none) = _
        rw [decide_eq_false z]
        rfl
    · intro H8 acc s8 hacc ha
      rw [List.length_map, range_in] at ha
      refine .inl ⟨Dc, acc, rfl, .inl (.inl hacc), fun q hq => ?_⟩
      have s9 := same_new (o := .tup acc) hq
      refine k q (ys.filter fun b => decide (b ∈ F)) _ (((s5.trans s57).trans s8).trans s9) ((asc_of hs (hp.nodup_iff.mpr wd.nd)).filter _) (fun b => ?_) (.tup (.inl (.inl upd_same)) (dps_same s9 _ _ ha))
      rw [List.mem_filter, ← reach_mem mro b, ← mF b]
      refine ⟨fun m => of_decide_eq_true m.2, fun m => ⟨hp.mem_iff.mpr ?_, decide_eq_true m⟩⟩
      exact reach_sub (S := fun b => b ∈ es.map (·.1)) (fun x mx => wd.ro x ((mro x).mp mx)) (fun a t x _ mt mx => wd.cl (a, t) mt x mx) ((mF b).mp m)
end
end K06

namespace K06
open PySem L2 Cm
/-! what the law draws: kinds, values, frames -/
abbrev words : List Str := ["pair", "fun", "keep", "once", "piece", "wait", "mark", "wind", "way", "pass"]
def W.ok : W → Prop
  | .int i => i.natAbs ≤ 1000000000
  | .con c => c ∈ conW
  | .ref w b => w ∈ refW ∧ 1 ≤ b ∧ b ≤ 40
/-- a drawn value that names only what is there -/
structure W.good (bs : List Int) (w : W) : Prop where
  ok : w.ok
  on : ∀ b ∈ w.refs, b ∈ bs
def kD (e : Int × Str) : PyData := .tuple [.int e.1, .str e.2]
structure Kds (ks : List (Int × Str)) : Prop where
  bs : ks.map (·.1) = births ks.length
  len : ks.length ≤ 40
  wd : ∀ e ∈ ks, e.2 ∈ words
  ps : ∀ b, (b, ("pass" : Str)) ∈ ks → ∃ b', (b', ("once" : Str)) ∈ ks
structure KdAt (K : PySem.W.Frag) (H : Hp) (h kd : Addr) (ks : List (Int × Str)) : Prop where
  ne : kd ≠ h
  ex : ∃ us, H kd = some (.lst us) ∧ DpAll K H us (ks.map kD)
theorem flat_kD (ks : List (Int × Str)) : flatDs (ks.map kD) = true := flatDs_of _ fun d m => by
  obtain ⟨e, _, rfl⟩ := List.mem_map.mp m
  rfl
theorem KdAt.kh {K : PySem.W.Frag} {H H' : Hp} {h kd : Addr} {ks : List (Int × Str)} (k : Kh h H H') (z : KdAt K H h kd ks) : KdAt K H' h kd ks := by
  obtain ⟨us, e, a⟩ := z.ex
  exact ⟨z.ne, us, k.st _ _ z.ne e, dps_keep (fun _ _ q => k.tup q) _ _ (flat_kD ks) a⟩
theorem KdAt.same {K : PySem.W.Frag} {H H' : Hp} {h kd : Addr} {ks : List (Int × Str)} (s : Same H H') (z : KdAt K H h kd ks) : KdAt K H' h kd ks := by
  obtain ⟨us, e, a⟩ := z.ex
  exact ⟨z.ne, us, s _ _ e, dps_same s _ _ a⟩
theorem Kds.lo {ks : List (Int × Str)} (k : Kds ks) {b : Int} (m : b ∈ ks.map (·.1)) : 1 ≤ b ∧ b ≤ 40 := by
  rw [k.bs] at m
  have := births_mem.mp m
  have := k.len
  omega
theorem dp_kD {K : PySem.W.Frag} {H : Hp} {v : V} {e : Int × Str} (h : Dp K H v (kD e)) : ∃ t, v = .ref t ∧ SqT K H t [.int e.1, .str e.2] := by
  cases h with
  | @tup a its ds hs ha =>
    cases ha with
    | cons h1 h2 =>
      cases h1
      cases h2 with
      | cons h1 h2 =>
        cases h1
        cases h2
        exact ⟨a, rfl, hs⟩
/-- the births of the kinds that p takes -/
def bsOf (p : Str → Bool) (ks : List (Int × Str)) : List Int := (ks.filter fun e => p e.2).map (·.1)
theorem range_bs (p : Str → Bool) (ks : List (Int × Str)) : (List.range ks.length).filterMap (fun i => (ks[i]?).bind fun e => if p e.2 = true then some (PyData.int e.1) else none) = (bsOf p ks).map PyData.int := by
  unfold bsOf
  induction ks with
  | nil => rfl
  | cons a l ih =>
    rw [List.length_cons, List.range_succ_eq_map, List.filterMap_cons, List.filter_cons, List.filterMap_map]
    by_cases z : p a.2 = true
    · simp only [List.getElem?_cons_zero, Option.bind_some, z, if_true]
      exact congrArg _ ih
    · simp only [List.getElem?_cons_zero, Option.bind_some, if_neg z]
      exact ih
theorem bs_sub {p : Str → Bool} {ks : List (Int × Str)} {b : Int} (m : b ∈ bsOf p ks) : b ∈ ks.map (·.1) := by
  obtain ⟨e, me, rfl⟩ := List.mem_map.mp m
  exact List.mem_map.mpr ⟨e, (List.mem_filter.mp me).1, rfl⟩
theorem bs_len (p : Str → Bool) (ks : List (Int × Str)) : (bsOf p ks).length ≤ ks.length := by
  unfold bsOf
  rw [List.length_map]
  exact List.length_filter_le _ _
/-- the drawn births as a list -/
theorem pick_int {b : V} {l : List Int} (m : b ∈ l.map V.int) : ∃ i ∈ l, b = .int i := by
  obtain ⟨i, a, e⟩ := List.mem_map.mp m
  exact ⟨i, a, e.symm⟩
def spSv (K : PySem.W.Frag) : Sp := fun vs H Q _ => ∃ (h c kd : Addr) (ks : List (Int × Str)), vs = [.ref h, .ref kd] ∧ Hand H h c ∧ KdAt K H h kd ks ∧ Kds ks ∧
  ∀ (v : V) (x : W) (H' : Hp), Kh h H H' → Hand H' h c → Dp K H' v x.enc → x.good (ks.map (·.1)) → Q v H'
section
variable {P : Program} {w : World} {K : PySem.W.Frag} {mg : Str → Option Value} {base : Heap}
abbrev s_l_some_value : Stmt := top 20
abbrev N_l_some_value : List Str := ["_law_hand_here", "_law_kinds", "_law_pick_here", "_law_word", "_law_those", "_law_birth", "_law_kind"]
theorem sc_l_some_value : FnScope N_l_some_value ["_law_hand_here", "_law_kinds"] (defScope s_l_some_value) := ⟨rfl, rfl, rfl, by decide +kernel, rfl, by decide +kernel, by decide +kernel⟩
theorem ok_some_value (T : Txt mg) (c_l_draw : Cl P w K mg base 2 "_law_draw" spDraw) (c_l_pick : Cl P w K mg base 3 "_law_pick" (spPick K)) (D : At K mg "_law_some_value" s_l_some_value ["_law_hand_here", "_law_kinds"]) : Cl P w K mg base 4 "_law_some_value" (spSv K) := by
  refine cl_of (k := 3) D sc_l_some_value (fun vs H Q E h => ?_) fun f cdv A outer s H vs Q E hr h => ?_
  · obtain ⟨h, c, kd, ks, rfl, _⟩ := h
    rfl
  · obtain ⟨h, c, kd, ks, rfl, hh, hk, kk, k⟩ := h
    refine ⟨_, (pss_cons (ps_set (i := 2) sc_l_some_value.nd rfl (Or.inl rfl) (pe_c c_l_draw hr (by decide) (by rfl) (pa_cons (pv 0) (pa_cons pe_int pa_nil))))
      (pss_cons (ps_if (pt_cmpR op_lt (pv 2) pe_int (nomark _))
        (pss_one (ps_ret (pe_op op_sub (pe_c c_l_draw hr (by decide) (by rfl) (pa_cons (pv 0) (pa_cons (pe_op op_add (pe_op op_mul pe_int (pe_op op_pow pe_int pe_int)) pe_int) pa_nil))) (pe_op op_pow pe_int pe_int))))
        pss_nil)
      (pss_cons (ps_if (pt_cmpR op_eq (pv 2) pe_int (nomark _))
        (pss_one (ps_ret (pe_c c_l_pick hr (by decide) (by rfl) (pa_cons (pv 0) (pa_cons (pe_lst (pa_cons (pe_tup (pa_cons pe_str pa_nil)) (pa_cons (pe_tup (pa_cons pe_str pa_nil)) (pa_cons (pe_tup (pa_cons pe_str pa_nil)) pa_nil)))) pa_nil)))))
        pss_nil)
      (pss_cons (ps_set (i := 3) sc_l_some_value.nd rfl (Or.inr rfl) (pe_c c_l_pick hr (by decide) (by rfl) (pa_cons (pv 0) (pa_cons (pe_lst (pa_cons pe_str (pa_cons pe_str (pa_cons pe_str pa_nil)))) pa_nil))))
      (pss_cons (ps_setLc (i := 4) (own := [("_law_birth", 5), ("_law_kind", 6)]) (g := gTup K 2 (gCons (gName 5) (gCons (gName 6) gNil))) rfl sc_l_some_value.nd rfl rfl (sw_true rfl rfl rfl (by decide +kernel)) (pi_list (pv 1)) (blkOk_by (N := N_l_some_value) (sc := defScope s_l_some_value) (by decide +kernel))
      (fun _ _ _ _ _ => (pg_tup rfl (pgs_cons (pg_name (i := 5) sc_l_some_value.nd rfl (Or.inl rfl)) (pgs_cons (pg_name (i := 6) sc_l_some_value.nd rfl (Or.inl rfl)) pgs_nil))))
      (fun _ _ _ _ _ => (pts_one (PW.pt (pw_or (pt_cmpR op_eq (pv 6) (pv 3) (nomark _)) (pw_or1 (PW.pt (pw_and (pt_cmpR op_eq (pv 3) pe_str (nomark _)) (pw_and1 (pt_inW (pv 6) (.cons (.cons (.cons .nil))) (show 3 ≤ sizeLine by decide) (by rfl))))))))))
      (fun _ _ _ _ _ => (pv 5)))
      (pss_cons (ps_if (pt_cmpR (op_eqD hr.units) (pv 4) (pe_lst pa_nil) (nomark _))
        (pss_one (ps_ret (pe_c c_l_draw hr (by decide) (by rfl) (pa_cons (pv 0) (pa_cons pe_int pa_nil)))))
        pss_nil)
      (pss_one (ps_ret (pe_tup (pa_cons (pv 3) (pa_cons (pe_c c_l_pick hr (by decide) (by rfl) (pa_cons (pv 0) (pa_cons (pv 4) pa_nil))) pa_nil))))))))))), ?_⟩
    refine ⟨_, rfl, h, c, 8, rfl, hh, by decide, by decide, fun n1 H1 n1a n1b k1 hh1 => ?_⟩
    refine ⟨_, rfl, _, _, rfl, rfl, _, rfl, ?_⟩
    refine ite2 (fun z => ?_) (fun z => ?_)
    · refine ⟨_, rfl, _, _, rfl, rfl, ⟨by decide, by decide, by decide⟩, _, _, rfl, rfl, .inl ⟨by decide, by decide⟩, _, _, rfl, rfl, h, c, _, rfl, hh1, by decide, by decide, fun v H2 va vb k2 hh2 => ?_⟩
      refine ⟨_, _, rfl, rfl, ⟨by decide, by decide, by decide⟩, _, _, rfl, rfl, ?_⟩
      rw [show (10 : Int) ^ Int.toNat 9 = 1000000000 from by decide] at vb ⊢
      exact k _ (.int (v - 1000000000)) H2 (k1.trans k2) hh2 (.int _) ⟨by show (v - 1000000000).natAbs ≤ 1000000000; omega, fun b m => by cases m⟩
    refine ⟨_, rfl, rfl, _, rfl, ?_⟩
    refine ite2 (fun z2 => ?_) (fun z2 => ?_)
    · refine ⟨_, rfl, by show 1 ≤ sizeLine; decide, fun q1 hq1 => ⟨by show 1 ≤ sizeLine; decide, fun q2 hq2 => ⟨by show 1 ≤ sizeLine; decide, fun q3 hq3 => ?_⟩⟩⟩
      have s1 := same_new (o := .tup [V.str "true"]) hq1
      have s2 := same_new (o := .tup [V.str "false"]) hq2
      have s3 := same_new (o := .tup [V.str "none"]) hq3
      have d1 : upd H1 q1 (.tup [V.str "true"]) q1 = some (.tup [V.str "true"]) := upd_same
      have d2 : upd (upd H1 q1 (.tup [V.str "true"])) q2 (.tup [V.str "false"]) q2 = some (.tup [V.str "false"]) := upd_same
      have d3 : upd (upd (upd H1 q1 (.tup [V.str "true"])) q2 (.tup [V.str "false"])) q3 (.tup [V.str "none"]) q3 = some (.tup [V.str "none"]) := upd_same
      have d1' := s3 _ _ (s2 _ _ d1)
      have d2' := s3 _ _ d2
      have s13 := (s1.trans s2).trans s3
      generalize upd (upd (upd H1 q1 (.tup [V.str "true"])) q2 (.tup [V.str "false"])) q3 (.tup [V.str "none"]) = H3 at *
      refine ⟨by show 3 ≤ sizeLine; decide, fun l hl => ?_⟩
      have s4 := same_new (o := .lst [V.ref q1, V.ref q2, V.ref q3]) hl
      refine ⟨h, c, l, [V.ref q1, V.ref q2, V.ref q3], rfl, (hh1.same s13).same s4, .inl ⟨.inl (.inl upd_same), ((hh1.same s13).there hl).1⟩, by simp, by simp, fun v H' m k' hh' => ?_⟩
      have kk' := (k1.trans (hh1.kh (s13.trans s4))).trans k'
      rcases List.mem_cons.mp m with rfl | m
      · exact k _ (.con "true") H' kk' hh' (.tup (k'.tup (.inl (.inl (s4 _ _ d1')))) (.cons (.str _) .nil)) ⟨by show ("true" : Str) ∈ conW; decide +kernel, fun b m => by cases m⟩
      rcases List.mem_cons.mp m with rfl | m
      · exact k _ (.con "false") H' kk' hh' (.tup (k'.tup (.inl (.inl (s4 _ _ d2')))) (.cons (.str _) .nil)) ⟨by show ("false" : Str) ∈ conW; decide +kernel, fun b m => by cases m⟩
      rw [List.mem_singleton.mp m]
      exact k _ (.con "none") H' kk' hh' (.tup (k'.tup (.inl (.inl (s4 _ _ d3)))) (.cons (.str _) .nil)) ⟨by show ("none" : Str) ∈ conW; decide +kernel, fun b m => by cases m⟩
    refine ⟨_, rfl, by show 3 ≤ sizeLine; decide, fun l hl => ?_⟩
    have s4 := same_new (o := .lst [V.str "pair", V.str "fun", V.str "rest"]) hl
    refine ⟨h, c, l, [V.str "pair", V.str "fun", V.str "rest"], rfl, hh1.same s4, .inl ⟨.inl (.inl upd_same), (hh1.there hl).1⟩, by simp, by simp, fun v H2 m k2 hh2 => ?_⟩
    have k02 := (k1.trans (hh1.kh s4)).trans k2
    obtain ⟨x, hx, rfl⟩ : ∃ x ∈ refW, v = .str x := by
      obtain ⟨x, a, e⟩ := List.mem_map.mp (show v ∈ refW.map V.str from m)
      exact ⟨x, a, e.symm⟩
    have hk2 := hk.kh k02
    obtain ⟨us, ek, ak⟩ := hk2.ex
    refine ⟨_, rfl, kd, rfl, ⟨us, .inl (.inl ek)⟩, fun Dc hDc => ?_⟩
    let p : Str → Bool := fun y => decide (y = x) || (decide (x = "rest") && decide (y ∈ rowW))
    have lus : us.length = ks.length := by have := DpAll.len ak; rwa [List.length_map] at this
    refine lc_data (K := K) (walk_list (K := K) (a := kd) (xs := us)) (fun i => (ks[i]?).bind fun e => if p e.2 = true then some (PyData.int e.1) else none) hDc (by have := kk.len; omega) (fun H' s => .inl (.inl (s _ _ ek))) (fun i _ d e => ?_) ?_ ?_
    · obtain ⟨b, _, e⟩ := Option.bind_eq_some_iff.mp e
      split at e
      · cases e; rfl
      · cases e
    · rintro i y H3' H3 hi s3 ⟨rfl, ex⟩ Q1 Q0 q1 q0
      obtain ⟨d, g1, g2⟩ := DpAll.atV ak ex
      obtain ⟨e, ee, rfl⟩ := map_at g1
      obtain ⟨t, rfl, ht⟩ := dp_kD (dp_same s3 _ _ g2)
      have fin1 : p e.2 = true → ∀ H', Same H3 H' → Q1 (.int e.1) H' := fun z' H' s' => q1 _ _ (.int e.1) (by rw [ee]; show (if p e.2 = true then some (PyData.int e.1) else none) = _; rw [if_pos z']) s' (.int _)
      have fin0 : ¬ p e.2 = true → ∀ H', Same H3 H' → Q0 H' := fun z' H' s' => q0 _ (by rw [ee]; show (if p e.2 = true then some (PyData.int e.1) else none) = _; rw [if_neg z']) s'
      refine ⟨t, _, rfl, ht, rfl, _, _, rfl, _, _, rfl, rfl, rfl, _, rfl, _, rfl, rfl, _, rfl, ?_⟩
      rw [decS]
      by_cases za : e.2 = x
      · rw [decide_eq_true za]
        exact iteT (iteT ⟨_, rfl, fin1 (by show (decide (e.2 = x) || _) = true; rw [decide_eq_true za]; rfl) _ (Same.refl _)⟩)
      rw [decide_eq_false za]
      refine iteF ⟨_, rfl, rfl, _, rfl, ?_⟩
      rw [decS]
      by_cases zb : x = "rest"
      · rw [decide_eq_true zb]
        refine iteT ⟨_, rfl, rfl, fun H' s' => ?_⟩
        rw [in_words]
        by_cases zc : e.2 ∈ rowW
        · rw [decide_eq_true zc]
          exact iteT ⟨_, rfl, fin1 (by show (decide (e.2 = x) || (decide (x = "rest") && decide (e.2 ∈ rowW))) = true; rw [decide_eq_false za, decide_eq_true zb, decide_eq_true zc]; rfl) _ s'⟩
        · rw [decide_eq_false zc]
          exact iteF (fin0 (fun z' => by
            rw [show p e.2 = (decide (e.2 = x) || (decide (x = "rest") && decide (e.2 ∈ rowW))) from rfl, decide_eq_false za, decide_eq_true zb, decide_eq_false zc] at z'
            cases z') _ s')
      rw [decide_eq_false zb]
      refine iteF (iteF (fin0 (fun z' => ?_) _ (Same.refl _)))
      rw [show p e.2 = (decide (e.2 = x) || (decide (x = "rest") && decide (e.2 ∈ rowW))) from rfl, decide_eq_false za, decide_eq_false zb] at z'
      cases z'
    · intro H3 acc s3 hacc ha
      rw [lus, range_bs] at ha
      have hbs := dpAll_ints_inv ha
      subst hbs
      refine ⟨_, rfl, by show 0 ≤ sizeLine; decide, fun l0 hl0 => ?_⟩
      have s5 := same_new (o := .lst ([] : List V)) hl0
      refine ⟨.list ((bsOf p ks).map PyData.int), .list [], .lst (.inl (.inl (s5 _ _ hacc))) (dpAll_ints _), .lst (.inl (.inl upd_same)) .nil, ints_sh _, rfl, _, rfl, ?_⟩
      have s35 := s3.trans s5
      have hh3 := hh2.same s35
      have eD := s5 _ _ hacc
      have nD : Dc ≠ h := (hh2.there hDc).1
      generalize upd H3 l0 (.lst ([] : List V)) = H5 at *
      have k05 := k02.trans (hh2.kh s35)
      have hsub : ∀ b ∈ bsOf p ks, b ∈ ks.map (·.1) := fun b m => bs_sub m
      have hlen := bs_len p ks
      generalize bsOf p ks = l at *
      cases l with
      | nil =>
        refine iteT ⟨_, rfl, h, c, 5, rfl, hh3, by decide, by decide, fun v H6 va vb k6 hh6 => ?_⟩
        exact k _ (.int v) H6 (k05.trans k6) hh6 (.int _) ⟨by show v.natAbs ≤ 1000000000; omega, fun b m => by cases m⟩
      | cons a l =>
        refine iteF ⟨_, rfl, _, rfl, _, rfl, h, c, Dc, _, rfl, hh3, .inl ⟨.inl (.inl eD), nD⟩, by simp, by have := kk.len; rw [List.length_map]; omega, fun v H6 m k6 hh6 => ?_⟩
        obtain ⟨b, mb, rfl⟩ := pick_int m
        refine ⟨by show 2 ≤ sizeLine; decide, fun q hq => ?_⟩
        have s7 := same_new (o := .tup [V.str x, V.int b]) hq
        exact k _ (.ref x b) _ ((k05.trans k6).trans (hh6.kh s7)) (hh6.same s7) (.tup (.inl (.inl upd_same)) (.cons (.str _) (.cons (.int _) .nil))) ⟨⟨hx, kk.lo (hsub b mb)⟩, fun b' m' => by rw [List.mem_singleton.mp m']; exact hsub b mb⟩
end
end K06

namespace K06
open PySem L2 Cm
theorem wsG {bs : List Int} : ∀ {ds : List PyData}, (∀ d ∈ ds, ∃ x : W, d = x.enc ∧ x.good bs) → ∃ xs : List W, ds = xs.map W.enc ∧ ∀ x ∈ xs, x.good bs
  | [], _ => ⟨[], rfl, fun x m => by cases m⟩
  | d :: ds, h => by
    obtain ⟨x, rfl, g⟩ := h d List.mem_cons_self
    obtain ⟨xs, rfl, gs⟩ := wsG (ds := ds) fun d m => h d (List.mem_cons_of_mem _ m)
    exact ⟨x :: xs, rfl, fun y m => by
      rcases List.mem_cons.mp m with rfl | m
      · exact g
      · exact gs y m⟩
theorem fsG {S : Int → Prop} : ∀ {ds : List PyData}, (∀ d ∈ ds, ∃ b : Int, d = .int b ∧ S b) → ∃ fs : List Int, ds = fs.map PyData.int ∧ ∀ b ∈ fs, S b
  | [], _ => ⟨[], rfl, fun x m => by cases m⟩
  | d :: ds, h => by
    obtain ⟨x, rfl, g⟩ := h d List.mem_cons_self
    obtain ⟨xs, rfl, gs⟩ := fsG (ds := ds) fun d m => h d (List.mem_cons_of_mem _ m)
    exact ⟨x :: xs, rfl, fun y m => by
      rcases List.mem_cons.mp m with rfl | m
      · exact g
      · exact gs y m⟩
def spVs (K : PySem.W.Frag) : Sp := fun vs H Q _ => ∃ (h c kd : Addr) (ks : List (Int × Str)) (m : Nat), vs = [.ref h, .ref kd, .int m] ∧ Hand H h c ∧ KdAt K H h kd ks ∧ Kds ks ∧ m ≤ 10 ∧
  ∀ (v : V) (xs : List W) (H' : Hp), Kh h H H' → Hand H' h c → Dp K H' v (wsT xs) → xs.length ≤ m → (∀ x ∈ xs, x.good (ks.map (·.1))) → Q v H'
def spFr (K : PySem.W.Frag) : Sp := fun vs H Q _ => ∃ (h c kd : Addr) (ks : List (Int × Str)) (m : Nat), vs = [.ref h, .ref kd, .int m] ∧ Hand H h c ∧ KdAt K H h kd ks ∧ Kds ks ∧ m ≤ 10 ∧
  ∀ (v : V) (fs : List Int) (H' : Hp), Kh h H H' → Hand H' h c → Dp K H' v (intsT fs) → fs.length ≤ m → (∀ b ∈ fs, b ∈ ks.map (·.1)) → Q v H'
section
variable {P : Program} {w : World} {K : PySem.W.Frag} {mg : Str → Option Value} {base : Heap}
abbrev s_l_values : Stmt := top 21
abbrev N_l_values : List Str := ["_law_hand_here", "_law_kinds", "_law_many", "_law_k"]
theorem sc_l_values : FnScope N_l_values ["_law_hand_here", "_law_kinds", "_law_many"] (defScope s_l_values) := ⟨rfl, rfl, rfl, by decide +kernel, rfl, by decide +kernel, by decide +kernel⟩
theorem ok_values (T : Txt mg) (c_l_draw : Cl P w K mg base 2 "_law_draw" spDraw) (c_l_some_value : Cl P w K mg base 4 "_law_some_value" (spSv K)) (D : At K mg "_law_values" s_l_values ["_law_hand_here", "_law_kinds", "_law_many"]) : Cl P w K mg base 5 "_law_values" (spVs K) := by
  refine cl_of (k := 4) D sc_l_values (fun vs H Q E h => ?_) fun f cdv A outer s H vs Q E hr h => ?_
  · obtain ⟨h, c, kd, ks, m, rfl, _⟩ := h
    rfl
  · obtain ⟨h, c, kd, ks, m, rfl, hh, hk, kk, hm, k⟩ := h
    refine ⟨_, (pss_one (ps_ret (pe_tupleOf (by rfl) T.tuple (pe_lc (own := [("_law_k", 3)]) rfl sc_l_values.nd (pi_range1 (by rfl) T.range (pa_cons (pe_c c_l_draw hr (by decide) (by rfl) (pa_cons (pv 0) (pa_cons (pe_op op_add (pv 2) pe_int) pa_nil))) pa_nil)) (blkOk_by (N := N_l_values) (sc := defScope s_l_values) (by decide +kernel))
      (fun _ _ _ _ _ => (pg_name (i := 3) sc_l_values.nd rfl (Or.inl rfl)))
      (fun _ _ _ _ _ => pts_nil)
      (fun _ _ _ _ _ => (pe_c c_l_some_value hr (by decide) (by rfl) (pa_cons (pv 0) (pa_cons (pv 1) pa_nil)))))))), ?_⟩
    refine ⟨_, rfl, _, rfl, _, _, rfl, rfl, h, c, (m : Int) + 1, rfl, hh, by omega, by omega, fun n1 H1 n1a n1b k1 hh1 => ?_⟩
    refine ⟨n1, rfl, by omega, by omega, fun Dc hDc => ?_⟩
    have hk1 := hk.kh k1
    have nD := hh1.there hDc
    refine lc_draw (K := K) (M := fun x => x = h) (walk_range (lo := 0) (n := n1.toNat)) (fun H' => Hand H' h c) (fun d => ∃ x : W, d = x.enc ∧ x.good (ks.map (·.1))) (fun x q => by subst q; exact hh1.lst) (hh1.same (same_new hDc)) (fun H' ys kp j => j.puts nD.1 nD.2) hDc (by omega) (fun _ _ _ => trivial) (fun d ⟨x, e, _⟩ => by subst e; exact flat_W x) ?_ ?_
    · rintro i x H2 H2' hi k2 hh2 ⟨rfl, rfl⟩ Q1 Q0 q1 q0
      refine ⟨rfl, iteT (B := Q0 H2') ⟨_, rfl, _, rfl, h, c, kd, ks, rfl, hh2, hk1.kh k2, kk, fun v x H4 k4 hh4 d g => ?_⟩⟩
      exact q1 v H4 _ ⟨x, rfl, g⟩ k4 hh4 d
    · intro H2 acc ds k2 hh2 hacc ha hg hl
      obtain ⟨xs, rfl, gs⟩ := wsG hg
      rw [List.length_map] at hl
      refine .inl ⟨Dc, acc, rfl, .inl (.inl hacc), fun q hq => ?_⟩
      have s9 := same_new (o := .tup acc) hq
      exact k _ xs _ ((k1.trans k2).trans (hh2.kh s9)) (hh2.same s9) (.tup (.inl (.inl upd_same)) (dps_same s9 _ _ ha)) (by omega) gs
abbrev s_l_frames : Stmt := top 22
abbrev N_l_frames : List Str := ["_law_hand_here", "_law_kinds", "_law_many", "_law_those", "_law_birth", "_law_kind", "_law_k"]
theorem sc_l_frames : FnScope N_l_frames ["_law_hand_here", "_law_kinds", "_law_many"] (defScope s_l_frames) := ⟨rfl, rfl, rfl, by decide +kernel, rfl, by decide +kernel, by decide +kernel⟩
abbrev frW : List Str := ["wait", "mark", "pass", "wind", "way"]
theorem ok_frames (T : Txt mg) (c_l_draw : Cl P w K mg base 2 "_law_draw" spDraw) (c_l_pick : Cl P w K mg base 3 "_law_pick" (spPick K)) (D : At K mg "_law_frames" s_l_frames ["_law_hand_here", "_law_kinds", "_law_many"]) : Cl P w K mg base 4 "_law_frames" (spFr K) := by
  refine cl_of (k := 3) D sc_l_frames (fun vs H Q E h => ?_) fun f cdv A outer s H vs Q E hr h => ?_
  · obtain ⟨h, c, kd, ks, m, rfl, _⟩ := h
    rfl
  · obtain ⟨h, c, kd, ks, m, rfl, hh, hk, kk, hm, k⟩ := h
    refine ⟨_, (pss_cons (ps_set (i := 3) sc_l_frames.nd rfl (Or.inr rfl) (pe_lc (own := [("_law_birth", 4), ("_law_kind", 5)]) (g := gTup K 2 (gCons (gName 4) (gCons (gName 5) gNil))) rfl sc_l_frames.nd (pi_list (pv 1)) (blkOk_by (N := N_l_frames) (sc := defScope s_l_frames) (by decide +kernel))
      (fun _ _ _ _ _ => (pg_tup rfl (pgs_cons (pg_name (i := 4) sc_l_frames.nd rfl (Or.inl rfl)) (pgs_cons (pg_name (i := 5) sc_l_frames.nd rfl (Or.inl rfl)) pgs_nil))))
      (fun _ _ _ _ _ => (pts_one (pt_inW (pv 5) (.cons (.cons (.cons (.cons (.cons .nil))))) (show 5 ≤ sizeLine by decide) (by rfl))))
      (fun _ _ _ _ _ => (pv 4))))
      (pss_cons (ps_if (pt_cmpR (op_eqD hr.units) (pv 3) (pe_lst pa_nil) (nomark _))
        (pss_one (ps_ret (pe_tup pa_nil)))
        pss_nil)
      (pss_one (ps_ret (pe_tupleOf (by rfl) T.tuple (pe_lc (own := [("_law_k", 6)]) rfl sc_l_frames.nd (pi_range1 (by rfl) T.range (pa_cons (pe_c c_l_draw hr (by decide) (by rfl) (pa_cons (pv 0) (pa_cons (pe_op op_add (pv 2) pe_int) pa_nil))) pa_nil)) (blkOk_by (N := N_l_frames) (sc := defScope s_l_frames) (by decide +kernel))
      (fun _ _ _ _ _ => (pg_name (i := 6) sc_l_frames.nd rfl (Or.inl rfl)))
      (fun _ _ _ _ _ => pts_nil)
      (fun _ _ _ _ _ => (pe_c c_l_pick hr (by decide) (by rfl) (pa_cons (pv 0) (pa_cons (pv 3) pa_nil)))))))))), ?_⟩
    obtain ⟨us, ek, ak⟩ := hk.ex
    refine ⟨_, rfl, kd, rfl, ⟨us, .inl (.inl ek)⟩, fun Dc hDc => ?_⟩
    let p : Str → Bool := fun y => decide (y ∈ frW)
    have lus : us.length = ks.length := by have := DpAll.len ak; rwa [List.length_map] at this
    refine lc_data (K := K) (walk_list (K := K) (a := kd) (xs := us)) (fun i => (ks[i]?).bind fun e => if p e.2 = true then some (PyData.int e.1) else none) hDc (by have := kk.len; omega) (fun H' s => .inl (.inl (s _ _ ek))) (fun i _ d e => ?_) ?_ ?_
    · obtain ⟨b, _, e⟩ := Option.bind_eq_some_iff.mp e
      split at e
      · cases e; rfl
      · cases e
    · rintro i y H3' H3 hi s3 ⟨rfl, ex⟩ Q1 Q0 q1 q0
      obtain ⟨d, g1, g2⟩ := DpAll.atV ak ex
      obtain ⟨e, ee, rfl⟩ := map_at g1
      obtain ⟨t, rfl, ht⟩ := dp_kD (dp_same s3 _ _ g2)
      have fin1 : p e.2 = true → ∀ H', Same H3 H' → Q1 (.int e.1) H' := fun z' H' s' => q1 _ _ (.int e.1) (by rw [ee]; show (if p e.2 = true then some (PyData.int e.1) else none) = _; rw [if_pos z']) s' (.int _)
      have fin0 : ¬ p e.2 = true → ∀ H', Same H3 H' → Q0 H' := fun z' H' s' => q0 _ (by rw [ee]; show (if p e.2 = true then some (PyData.int e.1) else none) = _; rw [if_neg z']) s'
      refine ⟨t, _, rfl, ht, rfl, _, _, rfl, _, _, rfl, rfl, rfl, _, rfl, rfl, fun H' s' => ?_⟩
      rw [in_words]
      by_cases za : e.2 ∈ frW
      · rw [decide_eq_true za]
        exact iteT ⟨_, rfl, fin1 (decide_eq_true za) _ s'⟩
      · rw [decide_eq_false za]
        exact iteF (fin0 (fun z' => za (of_decide_eq_true z')) _ s')
    · intro H3 acc s3 hacc ha
      rw [lus, range_bs] at ha
      have hbs := dpAll_ints_inv ha
      subst hbs
      refine ⟨_, rfl, by show 0 ≤ sizeLine; decide, fun l0 hl0 => ?_⟩
      have s5 := same_new (o := .lst ([] : List V)) hl0
      refine ⟨.list ((bsOf p ks).map PyData.int), .list [], .lst (.inl (.inl (s5 _ _ hacc))) (dpAll_ints _), .lst (.inl (.inl upd_same)) .nil, ints_sh _, rfl, _, rfl, ?_⟩
      have s35 := s3.trans s5
      have hh3 := hh.same s35
      have eD := s5 _ _ hacc
      have nD : Dc ≠ h := (hh.there hDc).1
      generalize upd H3 l0 (.lst ([] : List V)) = H5 at *
      have k05 := hh.kh s35
      have hsub : ∀ b ∈ bsOf p ks, b ∈ ks.map (·.1) := fun b m => bs_sub m
      have hlen := bs_len p ks
      generalize bsOf p ks = l at *
      cases l with
      | nil =>
        refine iteT ⟨by show 0 ≤ sizeLine; decide, fun q hq => ?_⟩
        have s7 := same_new (o := .tup ([] : List V)) hq
        exact k _ [] _ (k05.trans (hh3.kh s7)) (hh3.same s7) (.tup (.inl (.inl upd_same)) .nil) (Nat.zero_le _) (fun b m => by cases m)
      | cons a l =>
        refine iteF ⟨_, rfl, _, rfl, _, _, rfl, rfl, h, c, (m : Int) + 1, rfl, hh3, by omega, by omega, fun n1 H1 n1a n1b k1 hh1 => ?_⟩
        refine ⟨n1, rfl, by omega, by omega, fun D2 hD2 => ?_⟩
        have nD2 := hh1.there hD2
        have eD1 := k1.st _ _ nD eD
        refine lc_draw (K := K) (M := fun x => x = h) (walk_range (lo := 0) (n := n1.toNat)) (fun H' => Hand H' h c) (fun d => ∃ b : Int, d = .int b ∧ b ∈ ks.map (·.1)) (fun x q => by subst q; exact hh1.lst) (hh1.same (same_new hD2)) (fun H' ys kp j => j.puts nD2.1 nD2.2) hD2 (by omega) (fun _ _ _ => trivial) (fun d ⟨x, e, _⟩ => by subst e; rfl) ?_ ?_
        · rintro i x H2 H2' hi k2 hh2 ⟨rfl, rfl⟩ Q1 Q0 q1 q0
          refine ⟨rfl, iteT (B := Q0 H2') ⟨_, rfl, _, rfl, h, c, Dc, _, rfl, hh2, .inl ⟨.inl (.inl (k2.st _ _ nD eD1)), nD⟩, by simp, by have := kk.len; rw [List.length_map]; omega, fun v H6 m k6 hh6 => ?_⟩⟩
          obtain ⟨b, mb, rfl⟩ := pick_int m
          exact q1 _ H6 (.int b) ⟨b, rfl, hsub b mb⟩ k6 hh6 (.int _)
        · intro H2 acc ds k2 hh2 hacc ha hg hl
          obtain ⟨fs, rfl, gs⟩ := fsG hg
          rw [List.length_map] at hl
          refine .inl ⟨D2, acc, rfl, .inl (.inl hacc), fun q hq => ?_⟩
          have s9 := same_new (o := .tup acc) hq
          exact k _ fs _ (((k05.trans k1).trans k2).trans (hh2.kh s9)) (hh2.same s9) (.tup (.inl (.inl upd_same)) (dps_same s9 _ _ ha)) (by omega) gs
def Rd.good (bs : List Int) : Rd → Prop
  | .to fs k => fs.length ≤ 10 ∧ (∀ b ∈ fs, b ∈ bs) ∧ 0 ≤ k ∧ k < 100
  | .on fs => fs.length ≤ 10 ∧ ∀ b ∈ fs, b ∈ bs
  | _ => True
def spRd (K : PySem.W.Frag) : Sp := fun vs H Q _ => ∃ (h c kd : Addr) (ks : List (Int × Str)), vs = [.ref h, .ref kd] ∧ Hand H h c ∧ KdAt K H h kd ks ∧ Kds ks ∧
  ∀ (v : V) (r : Rd) (H' : Hp), Kh h H H' → Hand H' h c → Dp K H' v r.enc → r.good (ks.map (·.1)) → Q v H'
abbrev s_l_road : Stmt := top 23
abbrev N_l_road : List Str := ["_law_hand_here", "_law_kinds", "_law_pick_here"]
theorem sc_l_road : FnScope N_l_road ["_law_hand_here", "_law_kinds"] (defScope s_l_road) := ⟨rfl, rfl, rfl, by decide +kernel, rfl, by decide +kernel, by decide +kernel⟩
theorem ok_road (c_l_draw : Cl P w K mg base 2 "_law_draw" spDraw) (c_l_frames : Cl P w K mg base 4 "_law_frames" (spFr K)) (D : At K mg "_law_road" s_l_road ["_law_hand_here", "_law_kinds"]) : Cl P w K mg base 5 "_law_road" (spRd K) := by
  refine cl_of (k := 4) D sc_l_road (fun vs H Q E h => ?_) fun f cdv A outer s H vs Q E hr h => ?_
  · obtain ⟨h, c, kd, ks, rfl, _⟩ := h
    rfl
  · obtain ⟨h, c, kd, ks, rfl, hh, hk, kk, k⟩ := h
    refine ⟨_, (pss_cons (ps_set (i := 2) sc_l_road.nd rfl (Or.inl rfl) (pe_c c_l_draw hr (by decide) (by rfl) (pa_cons (pv 0) (pa_cons pe_int pa_nil))))
      (pss_cons (ps_if (pt_cmpR op_eq (pv 2) pe_int (nomark _))
        (pss_one (ps_ret (pe_tup (pa_cons pe_str (pa_cons (pe_c c_l_frames hr (by decide) (by rfl) (pa_cons (pv 0) (pa_cons (pv 1) (pa_cons pe_int pa_nil)))) (pa_cons (pe_c c_l_draw hr (by decide) (by rfl) (pa_cons (pv 0) (pa_cons pe_int pa_nil))) pa_nil))))))
        pss_nil)
      (pss_cons (ps_if (pt_cmpR op_eq (pv 2) pe_int (nomark _))
        (pss_one (ps_ret (pe_tup (pa_cons pe_str (pa_cons (pe_c c_l_frames hr (by decide) (by rfl) (pa_cons (pv 0) (pa_cons (pv 1) (pa_cons pe_int pa_nil)))) pa_nil)))))
        pss_nil)
      (pss_one (ps_ret (pe_ifExp (pt_cmpR op_eq (pv 2) pe_int (nomark _)) (pe_tup (pa_cons pe_str pa_nil)) (pe_tup (pa_cons pe_str pa_nil)))))))), ?_⟩
    refine ⟨_, rfl, h, c, 4, rfl, hh, by decide, by decide, fun n1 H1 n1a n1b k1 hh1 => ?_⟩
    have hk1 := hk.kh k1
    refine ⟨_, rfl, rfl, _, rfl, ?_⟩
    refine ite2 (fun z => ?_) (fun z => ?_)
    · refine ⟨_, rfl, _, rfl, h, c, kd, ks, 5, rfl, hh1, hk1, kk, by decide, fun v fs H2 k2 hh2 d hl hg => ?_⟩
      refine ⟨_, rfl, h, c, 3, rfl, hh2, by decide, by decide, fun n2 H3 n2a n2b k3 hh3 => ?_⟩
      refine ⟨by show 3 ≤ sizeLine; decide, fun q hq => ?_⟩
      have s7 := same_new (o := .tup [V.str "to", v, V.int n2]) hq
      have d3 := dp_same s7 _ _ (dp_keep (fun _ _ q => k3.tup q) _ _ (flat_intsT fs) d)
      exact k _ (.to fs n2) _ (((k1.trans k2).trans k3).trans (hh3.kh s7)) (hh3.same s7) (.tup (.inl (.inl upd_same)) (.cons (.str _) (.cons d3 (.cons (.int _) .nil)))) ⟨by omega, hg, n2a, by omega⟩
    refine ⟨_, rfl, rfl, _, rfl, ?_⟩
    refine ite2 (fun z => ?_) (fun z => ?_)
    · refine ⟨_, rfl, _, rfl, h, c, kd, ks, 5, rfl, hh1, hk1, kk, by decide, fun v fs H2 k2 hh2 d hl hg => ?_⟩
      refine ⟨by show 2 ≤ sizeLine; decide, fun q hq => ?_⟩
      have s7 := same_new (o := .tup [V.str "on", v]) hq
      exact k _ (.on fs) _ ((k1.trans k2).trans (hh2.kh s7)) (hh2.same s7) (.tup (.inl (.inl upd_same)) (.cons (.str _) (.cons (dp_same s7 _ _ d) .nil))) ⟨by omega, hg⟩
    refine ⟨_, rfl, rfl, _, rfl, ?_⟩
    refine ite2 (fun z => ?_) (fun z => ?_)
    · refine ⟨by show 1 ≤ sizeLine; decide, fun q hq => ?_⟩
      have s7 := same_new (o := .tup [V.str "off"]) hq
      exact k _ .off _ (k1.trans (hh1.kh s7)) (hh1.same s7) (.tup (.inl (.inl upd_same)) (.cons (.str _) .nil)) trivial
    · refine ⟨by show 1 ≤ sizeLine; decide, fun q hq => ?_⟩
      have s7 := same_new (o := .tup [V.str "out"]) hq
      exact k _ .out _ (k1.trans (hh1.kh s7)) (hh1.same s7) (.tup (.inl (.inl upd_same)) (.cons (.str _) .nil)) trivial
end
end K06

namespace K06
open PySem L2 Cm
def Tn.good (bs : List Int) : Tn → Prop
  | .pair a b => a.good bs ∧ b.good bs
  | .wind a b => a.good bs ∧ b.good bs
  | .fn n vs => 0 ≤ n ∧ n < 100 ∧ vs.length ≤ 10 ∧ ∀ x ∈ vs, x.good bs
  | .wait n vs => 0 ≤ n ∧ n < 100 ∧ vs.length ≤ 10 ∧ ∀ x ∈ vs, x.good bs
  | .keep fs => fs.length ≤ 10 ∧ ∀ b ∈ fs, b ∈ bs
  | .piece fs => fs.length ≤ 10 ∧ ∀ b ∈ fs, b ∈ bs
  | .once fs u => fs.length ≤ 10 ∧ (∀ b ∈ fs, b ∈ bs) ∧ 0 ≤ u ∧ u < 100
  | .pass b => b ∈ bs
  | .give r w => r.good bs ∧ w.good bs
  | .call r w vs => r.good bs ∧ w.good bs ∧ vs.length ≤ 10 ∧ ∀ x ∈ vs, x.good bs
  | .mark => True
def spTg (K : PySem.W.Frag) : Sp := fun vs H Q _ => ∃ (h c kd : Addr) (ks : List (Int × Str)) (kw : Str), vs = [.ref h, .ref kd, .str kw] ∧ Hand H h c ∧ KdAt K H h kd ks ∧ Kds ks ∧ (kw = "pass" → ∃ b, (b, ("once" : Str)) ∈ ks) ∧
  ∀ (v : V) (t : Tn) (H' : Hp), Kh h H H' → Hand H' h c → Dp K H' v t.enc → t.good (ks.map (·.1)) → Q v H'
section
variable {P : Program} {w : World} {K : PySem.W.Frag} {mg : Str → Option Value} {base : Heap}
abbrev s_l_thing : Stmt := top 24
abbrev N_l_thing : List Str := ["_law_hand_here", "_law_kinds", "_law_kind", "_law_used", "_law_birth", "_law_each", "_law_road_here"]
theorem sc_l_thing : FnScope N_l_thing ["_law_hand_here", "_law_kinds", "_law_kind"] (defScope s_l_thing) := ⟨rfl, rfl, rfl, by decide +kernel, rfl, by decide +kernel, by decide +kernel⟩
theorem ok_thing (c_l_draw : Cl P w K mg base 2 "_law_draw" spDraw) (c_l_pick : Cl P w K mg base 3 "_law_pick" (spPick K)) (c_l_some_value : Cl P w K mg base 4 "_law_some_value" (spSv K)) (c_l_values : Cl P w K mg base 5 "_law_values" (spVs K)) (c_l_frames : Cl P w K mg base 4 "_law_frames" (spFr K)) (c_l_road : Cl P w K mg base 5 "_law_road" (spRd K)) (D : At K mg "_law_thing" s_l_thing ["_law_hand_here", "_law_kinds", "_law_kind"]) : Cl P w K mg base 6 "_law_thing" (spTg K) := by
  refine cl_of (k := 5) D sc_l_thing (fun vs H Q E h => ?_) fun f cdv A outer s H vs Q E hr h => ?_
  · obtain ⟨h, c, kd, ks, kw, rfl, _⟩ := h
    rfl
  · obtain ⟨h, c, kd, ks, kw, rfl, hh, hk, kk, hp, k⟩ := h
    refine ⟨_, (pss_cons (ps_if (pt_cmpR op_eq (pv 2) pe_str (nomark _))
        (pss_one (ps_ret (pe_tup (pa_cons pe_str (pa_cons (pe_c c_l_some_value hr (by decide) (by rfl) (pa_cons (pv 0) (pa_cons (pv 1) pa_nil))) (pa_cons (pe_c c_l_some_value hr (by decide) (by rfl) (pa_cons (pv 0) (pa_cons (pv 1) pa_nil))) pa_nil))))))
        pss_nil)
      (pss_cons (ps_if (pt_cmpR op_eq (pv 2) pe_str (nomark _))
        (pss_one (ps_ret (pe_tup (pa_cons pe_str (pa_cons (pe_c c_l_draw hr (by decide) (by rfl) (pa_cons (pv 0) (pa_cons pe_int pa_nil))) (pa_cons (pe_c c_l_values hr (by decide) (by rfl) (pa_cons (pv 0) (pa_cons (pv 1) (pa_cons pe_int pa_nil)))) pa_nil))))))
        pss_nil)
      (pss_cons (ps_if (pt_inW (pv 2) (.cons (.cons .nil)) (show 2 ≤ sizeLine by decide) (by rfl))
        (pss_one (ps_ret (pe_tup (pa_cons (pv 2) (pa_cons (pe_c c_l_frames hr (by decide) (by rfl) (pa_cons (pv 0) (pa_cons (pv 1) (pa_cons pe_int pa_nil)))) pa_nil)))))
        pss_nil)
      (pss_cons (ps_if (pt_cmpR op_eq (pv 2) pe_str (nomark _))
        (pss_cons (ps_set (i := 3) sc_l_thing.nd rfl (Or.inl rfl) (pe_c c_l_draw hr (by decide) (by rfl) (pa_cons (pv 0) (pa_cons pe_int pa_nil))))
        (pss_one (ps_ret (pe_tup (pa_cons pe_str (pa_cons (pe_ifExp (pt_cmpR op_eq (pv 3) pe_int (nomark _)) (pe_tup pa_nil) (pe_c c_l_frames hr (by decide) (by rfl) (pa_cons (pv 0) (pa_cons (pv 1) (pa_cons pe_int pa_nil))))) (pa_cons (pv 3) pa_nil)))))))
        pss_nil)
      (pss_cons (ps_if (pt_cmpR op_eq (pv 2) pe_str (nomark _))
        (pss_one (ps_ret (pe_tup (pa_cons pe_str (pa_cons (pe_c c_l_draw hr (by decide) (by rfl) (pa_cons (pv 0) (pa_cons pe_int pa_nil))) (pa_cons (pe_c c_l_values hr (by decide) (by rfl) (pa_cons (pv 0) (pa_cons (pv 1) (pa_cons pe_int pa_nil)))) pa_nil))))))
        pss_nil)
      (pss_cons (ps_if (pt_cmpR op_eq (pv 2) pe_str (nomark _))
        (pss_one (ps_ret (pe_tup (pa_cons pe_str (pa_cons (pe_c c_l_some_value hr (by decide) (by rfl) (pa_cons (pv 0) (pa_cons (pv 1) pa_nil))) (pa_cons (pe_c c_l_some_value hr (by decide) (by rfl) (pa_cons (pv 0) (pa_cons (pv 1) pa_nil))) pa_nil))))))
        pss_nil)
      (pss_cons (ps_if (pt_cmpR op_eq (pv 2) pe_str (nomark _))
        (pss_one (ps_ret (pe_tup (pa_cons pe_str (pa_cons (pe_c c_l_pick hr (by decide) (by rfl) (pa_cons (pv 0) (pa_cons (pe_lc (own := [("_law_birth", 4), ("_law_each", 5)]) (g := gTup K 2 (gCons (gName 4) (gCons (gName 5) gNil))) rfl sc_l_thing.nd (pi_list (pv 1)) (blkOk_by (N := N_l_thing) (sc := defScope s_l_thing) (by decide +kernel))
      (fun _ _ _ _ _ => (pg_tup rfl (pgs_cons (pg_name (i := 4) sc_l_thing.nd rfl (Or.inl rfl)) (pgs_cons (pg_name (i := 5) sc_l_thing.nd rfl (Or.inl rfl)) pgs_nil))))
      (fun _ _ _ _ _ => (pts_one (pt_cmpR op_eq (pv 5) pe_str (nomark _))))
      (fun _ _ _ _ _ => (pv 4))) pa_nil))) pa_nil)))))
        pss_nil)
      (pss_cons (ps_if (pt_cmpR op_eq (pv 2) pe_str (nomark _))
        (pss_cons (ps_set (i := 6) sc_l_thing.nd rfl (Or.inl rfl) (pe_c c_l_road hr (by decide) (by rfl) (pa_cons (pv 0) (pa_cons (pv 1) pa_nil))))
        (pss_cons (ps_if (pt_cmpR op_eq (pe_c c_l_draw hr (by decide) (by rfl) (pa_cons (pv 0) (pa_cons pe_int pa_nil))) pe_int (nomark _))
          (pss_one (ps_ret (pe_tup (pa_cons pe_str (pa_cons (pv 6) (pa_cons (pe_tup (pa_cons pe_str (pa_cons (pe_c c_l_some_value hr (by decide) (by rfl) (pa_cons (pv 0) (pa_cons (pv 1) pa_nil))) pa_nil))) pa_nil))))))
          pss_nil)
        (pss_one (ps_ret (pe_tup (pa_cons pe_str (pa_cons (pv 6) (pa_cons (pe_tup (pa_cons pe_str (pa_cons (pe_c c_l_some_value hr (by decide) (by rfl) (pa_cons (pv 0) (pa_cons (pv 1) pa_nil))) (pa_cons (pe_c c_l_values hr (by decide) (by rfl) (pa_cons (pv 0) (pa_cons (pv 1) (pa_cons pe_int pa_nil)))) pa_nil)))) pa_nil))))))))
        pss_nil)
      (pss_one (ps_ret (pe_tup (pa_cons pe_str pa_nil)))))))))))), ?_⟩
    refine ⟨_, rfl, rfl, _, rfl, ?_⟩
    refine ite2 (fun z => ?_) (fun z => ?_)
    · refine ⟨_, rfl, _, rfl, h, c, kd, ks, rfl, hh, hk, kk, fun v1 x1 H1 k1 hh1 d1 g1 => ?_⟩
      refine ⟨_, rfl, _, rfl, h, c, kd, ks, rfl, hh1, hk.kh k1, kk, fun v2 x2 H2 k2 hh2 d2 g2 => ?_⟩
      refine ⟨by show 3 ≤ sizeLine; decide, fun q hq => ?_⟩
      have s7 := same_new (o := .tup [V.str "pair", v1, v2]) hq
      have d1' := dp_same s7 _ _ (dp_keep (fun _ _ q => k2.tup q) _ _ (flat_W x1) d1)
      exact k _ (.pair x1 x2) _ ((k1.trans k2).trans (hh2.kh s7)) (hh2.same s7) (.tup (.inl (.inl upd_same)) (.cons (.str _) (.cons d1' (.cons (dp_same s7 _ _ d2) .nil)))) ⟨g1, g2⟩
    refine ⟨_, rfl, rfl, _, rfl, ?_⟩
    refine ite2 (fun z => ?_) (fun z => ?_)
    · refine ⟨_, rfl, h, c, 60, rfl, hh, by decide, by decide, fun n1 H1 n1a n1b k1 hh1 => ?_⟩
      refine ⟨_, rfl, _, rfl, h, c, kd, ks, 4, rfl, hh1, hk.kh k1, kk, by decide, fun v2 xs H2 k2 hh2 d2 l2 g2 => ?_⟩
      refine ⟨by show 3 ≤ sizeLine; decide, fun q hq => ?_⟩
      have s7 := same_new (o := .tup [V.str "fun", V.int n1, v2]) hq
      exact k _ (.fn n1 xs) _ ((k1.trans k2).trans (hh2.kh s7)) (hh2.same s7) (.tup (.inl (.inl upd_same)) (.cons (.str _) (.cons (.int _) (.cons (dp_same s7 _ _ d2) .nil)))) ⟨n1a, by omega, by omega, g2⟩
    refine ⟨_, rfl, rfl, fun H0 s0 => ?_⟩
    have hh0 := hh.same s0
    have hk0 := hk.same s0
    have k0 := hh.kh s0
    rw [in_words]
    refine ite2 (fun z => ?_) (fun z => ?_)
    · refine ⟨_, rfl, _, rfl, _, rfl, h, c, kd, ks, 8, rfl, hh0, hk0, kk, by decide, fun v fs H2 k2 hh2 d hl hg => ?_⟩
      refine ⟨by show 2 ≤ sizeLine; decide, fun q hq => ?_⟩
      have s7 := same_new (o := .tup [V.str kw, v]) hq
      have z' : kw ∈ (["keep", "piece"] : List Str) := of_decide_eq_true z
      rcases List.mem_cons.mp z' with e | z'
      · subst e
        exact k _ (.keep fs) _ ((k0.trans k2).trans (hh2.kh s7)) (hh2.same s7) (.tup (.inl (.inl upd_same)) (.cons (.str _) (.cons (dp_same s7 _ _ d) .nil))) ⟨by omega, hg⟩
      · have e := List.mem_singleton.mp z'
        subst e
        exact k _ (.piece fs) _ ((k0.trans k2).trans (hh2.kh s7)) (hh2.same s7) (.tup (.inl (.inl upd_same)) (.cons (.str _) (.cons (dp_same s7 _ _ d) .nil))) ⟨by omega, hg⟩
    refine ⟨_, rfl, rfl, _, rfl, ?_⟩
    refine ite2 (fun z => ?_) (fun z => ?_)
    · refine ⟨_, rfl, h, c, 2, rfl, hh0, by decide, by decide, fun n1 H1 n1a n1b k1 hh1 => ?_⟩
      refine ⟨_, rfl, rfl, _, rfl, ?_⟩
      refine ite2 (fun z => ?_) (fun z => ?_)
      · refine ⟨by show 0 ≤ sizeLine; decide, fun p hp => ?_⟩
        have s6 := same_new (o := .tup ([] : List V)) hp
        refine ⟨_, rfl, by show 3 ≤ sizeLine; decide, fun q hq => ?_⟩
        have s7 := same_new (o := .tup [V.str "once", V.ref p, V.int n1]) hq
        have s67 := s6.trans s7
        exact k _ (.once [] n1) _ ((k0.trans k1).trans (hh1.kh s67)) (hh1.same s67) (.tup (.inl (.inl upd_same)) (.cons (.str _) (.cons (.tup (.inl (.inl (s7 _ _ upd_same))) .nil) (.cons (.int _) .nil)))) ⟨Nat.zero_le _, (fun b m => by cases m), n1a, by omega⟩
      · refine ⟨_, rfl, _, rfl, h, c, kd, ks, 8, rfl, hh1, hk0.kh k1, kk, by decide, fun v fs H2 k2 hh2 d hl hg => ?_⟩
        refine ⟨_, rfl, by show 3 ≤ sizeLine; decide, fun q hq => ?_⟩
        have s7 := same_new (o := .tup [V.str "once", v, V.int n1]) hq
        exact k _ (.once fs n1) _ (((k0.trans k1).trans k2).trans (hh2.kh s7)) (hh2.same s7) (.tup (.inl (.inl upd_same)) (.cons (.str _) (.cons (dp_same s7 _ _ d) (.cons (.int _) .nil)))) ⟨by omega, hg, n1a, by omega⟩
    refine ⟨_, rfl, rfl, _, rfl, ?_⟩
    refine ite2 (fun z => ?_) (fun z => ?_)
    · refine ⟨_, rfl, h, c, 60, rfl, hh0, by decide, by decide, fun n1 H1 n1a n1b k1 hh1 => ?_⟩
      refine ⟨_, rfl, _, rfl, h, c, kd, ks, 4, rfl, hh1, hk0.kh k1, kk, by decide, fun v2 xs H2 k2 hh2 d2 l2 g2 => ?_⟩
      refine ⟨by show 3 ≤ sizeLine; decide, fun q hq => ?_⟩
      have s7 := same_new (o := .tup [V.str "wait", V.int n1, v2]) hq
      exact k _ (.wait n1 xs) _ (((k0.trans k1).trans k2).trans (hh2.kh s7)) (hh2.same s7) (.tup (.inl (.inl upd_same)) (.cons (.str _) (.cons (.int _) (.cons (dp_same s7 _ _ d2) .nil)))) ⟨n1a, by omega, by omega, g2⟩
    refine ⟨_, rfl, rfl, _, rfl, ?_⟩
    refine ite2 (fun z => ?_) (fun z => ?_)
    · refine ⟨_, rfl, _, rfl, h, c, kd, ks, rfl, hh0, hk0, kk, fun v1 x1 H1 k1 hh1 d1 g1 => ?_⟩
      refine ⟨_, rfl, _, rfl, h, c, kd, ks, rfl, hh1, hk0.kh k1, kk, fun v2 x2 H2 k2 hh2 d2 g2 => ?_⟩
      refine ⟨by show 3 ≤ sizeLine; decide, fun q hq => ?_⟩
      have s7 := same_new (o := .tup [V.str "wind", v1, v2]) hq
      have d1' := dp_same s7 _ _ (dp_keep (fun _ _ q => k2.tup q) _ _ (flat_W x1) d1)
      exact k _ (.wind x1 x2) _ (((k0.trans k1).trans k2).trans (hh2.kh s7)) (hh2.same s7) (.tup (.inl (.inl upd_same)) (.cons (.str _) (.cons d1' (.cons (dp_same s7 _ _ d2) .nil)))) ⟨g1, g2⟩
    refine ⟨_, rfl, rfl, _, rfl, ?_⟩
    refine ite2 (fun z => ?_) (fun z => ?_)
    · obtain ⟨bo, mo⟩ := hp (V.str.inj (of_decide_eq_true z))
      obtain ⟨us, ek, ak⟩ := hk0.ex
      let p : Str → Bool := fun y => decide (y = "once")
      have lus : us.length = ks.length := by have := DpAll.len ak; rwa [List.length_map] at this
      refine ⟨_, rfl, _, rfl, kd, rfl, ⟨us, .inl (.inl ek)⟩, fun Dc hDc => ?_⟩
      refine lc_data (K := K) (walk_list (K := K) (a := kd) (xs := us)) (fun i => (ks[i]?).bind fun e => if p e.2 = true then some (PyData.int e.1) else none) hDc (by have := kk.len; omega) (fun H' s => .inl (.inl (s _ _ ek))) (fun i _ d e => ?_) ?_ ?_
      · obtain ⟨b, _, e⟩ := Option.bind_eq_some_iff.mp e
        split at e
        · cases e; rfl
        · cases e
      · rintro i y H3' H3 hi s3 ⟨rfl, ex⟩ Q1 Q0 q1 q0
        obtain ⟨d, g1, g2⟩ := DpAll.atV ak ex
        obtain ⟨e, ee, rfl⟩ := map_at g1
        obtain ⟨t, rfl, ht⟩ := dp_kD (dp_same s3 _ _ g2)
        have fin1 : p e.2 = true → ∀ H', Same H3 H' → Q1 (.int e.1) H' := fun z' H' s' => q1 _ _ (.int e.1) (by rw [ee]; show (if p e.2 = true then some (PyData.int e.1) else none) = _; rw [if_pos z']) s' (.int _)
        have fin0 : ¬ p e.2 = true → ∀ H', Same H3 H' → Q0 H' := fun z' H' s' => q0 _ (by rw [ee]; show (if p e.2 = true then some (PyData.int e.1) else none) = _; rw [if_neg z']) s'
        refine ⟨t, _, rfl, ht, rfl, _, _, rfl, _, _, rfl, rfl, rfl, _, rfl, rfl, _, rfl, ?_⟩
        rw [decS]
        by_cases za : e.2 = "once"
        · rw [decide_eq_true za]
          exact iteT ⟨_, rfl, fin1 (decide_eq_true za) _ (Same.refl _)⟩
        · rw [decide_eq_false za]
          exact iteF (fin0 (fun z' => za (of_decide_eq_true z')) _ (Same.refl _))
      · intro H3 acc s3 hacc ha
        rw [lus, range_bs] at ha
        have hbs := dpAll_ints_inv ha
        subst hbs
        have nD : Dc ≠ h := (hh0.there hDc).1
        have hh3 := hh0.same s3
        have hsub : ∀ b ∈ bsOf p ks, b ∈ ks.map (·.1) := fun b m => bs_sub m
        have hlen := bs_len p ks
        have hne : bsOf p ks ≠ [] := fun e => by
          have : bo ∈ bsOf p ks := List.mem_map.mpr ⟨(bo, "once"), List.mem_filter.mpr ⟨mo, decide_eq_true rfl⟩, rfl⟩
          rw [e] at this
          cases this
        refine ⟨h, c, Dc, _, rfl, hh3, .inl ⟨.inl (.inl hacc), nD⟩, fun e => hne (List.map_eq_nil_iff.mp e), by have := kk.len; rw [List.length_map]; omega, fun v H6 m k6 hh6 => ?_⟩
        obtain ⟨b, mb, rfl⟩ := pick_int m
        refine ⟨by show 2 ≤ sizeLine; decide, fun q hq => ?_⟩
        have s7 := same_new (o := .tup [V.str "pass", V.int b]) hq
        exact k _ (.pass b) _ ((((k0.trans (hh0.kh s3))).trans k6).trans (hh6.kh s7)) (hh6.same s7) (.tup (.inl (.inl upd_same)) (.cons (.str _) (.cons (.int _) .nil))) (hsub b mb)
    refine ⟨_, rfl, rfl, _, rfl, ?_⟩
    refine ite2 (fun z => ?_) (fun z => ?_)
    · refine ⟨_, rfl, _, rfl, h, c, kd, ks, rfl, hh0, hk0, kk, fun v1 r H1 k1 hh1 d1 g1 => ?_⟩
      refine ⟨_, rfl, h, c, 2, rfl, hh1, by decide, by decide, fun n2 H2 n2a n2b k2 hh2 => ?_⟩
      have hk2 := (hk0.kh k1).kh k2
      refine ⟨rfl, _, rfl, ?_⟩
      refine ite2 (fun z => ?_) (fun z => ?_)
      · refine ⟨_, rfl, _, rfl, _, rfl, h, c, kd, ks, rfl, hh2, hk2, kk, fun v2 x2 H3 k3 hh3 d2 g2 => ?_⟩
        refine ⟨by show 2 ≤ sizeLine; decide, fun p hp => ⟨by show 3 ≤ sizeLine; decide, fun q hq => ?_⟩⟩
        have s6 := same_new (o := .tup [V.str "give", v2]) hp
        have s7 := same_new (o := .tup [V.str "way", v1, V.ref p]) hq
        have s67 := s6.trans s7
        have d1' := dp_same s67 _ _ (dp_keep (fun _ _ q => (k2.trans k3).tup q) _ _ (flat_Rd r) d1)
        exact k _ (.give r x2) _ ((((k0.trans k1).trans k2).trans k3).trans (hh3.kh s67)) (hh3.same s67) (.tup (.inl (.inl upd_same)) (.cons (.str _) (.cons d1' (.cons (.tup (.inl (.inl (s7 _ _ upd_same))) (.cons (.str _) (.cons (dp_same s67 _ _ d2) .nil))) .nil)))) ⟨g1, g2⟩
      · refine ⟨_, rfl, _, rfl, _, rfl, h, c, kd, ks, rfl, hh2, hk2, kk, fun v2 x2 H3 k3 hh3 d2 g2 => ?_⟩
        refine ⟨_, rfl, _, rfl, h, c, kd, ks, 3, rfl, hh3, hk2.kh k3, kk, by decide, fun v3 xs H4 k4 hh4 d3 l3 g3 => ?_⟩
        refine ⟨by show 3 ≤ sizeLine; decide, fun p hp => ⟨by show 3 ≤ sizeLine; decide, fun q hq => ?_⟩⟩
        have s6 := same_new (o := .tup [V.str "call", v2, v3]) hp
        have s7 := same_new (o := .tup [V.str "way", v1, V.ref p]) hq
        have s67 := s6.trans s7
        have d1' := dp_same s67 _ _ (dp_keep (fun _ _ q => ((k2.trans k3).trans k4).tup q) _ _ (flat_Rd r) d1)
        have d2' := dp_same s67 _ _ (dp_keep (fun _ _ q => k4.tup q) _ _ (flat_W x2) d2)
        exact k _ (.call r x2 xs) _ (((((k0.trans k1).trans k2).trans k3).trans k4).trans (hh4.kh s67)) (hh4.same s67) (.tup (.inl (.inl upd_same)) (.cons (.str _) (.cons d1' (.cons (.tup (.inl (.inl (s7 _ _ upd_same))) (.cons (.str _) (.cons d2' (.cons (dp_same s67 _ _ d3) .nil)))) .nil)))) ⟨g1, g2, by omega, g3⟩
    refine ⟨by show 1 ≤ sizeLine; decide, fun q hq => ?_⟩
    have s7 := same_new (o := .tup [V.str "mark"]) hq
    exact k _ .mark _ (k0.trans (hh0.kh s7)) (hh0.same s7) (.tup (.inl (.inl upd_same)) (.cons (.str _) .nil)) trivial
end
end K06

set_option linter.all false
/-! plain classes: an __init__ that stores its parameters, fields of data, an __eq__ over all fields -/
namespace Cm
open PySem L2 PySem.Spec PyProof.Rows
theorem putF_new {f : Str} {v : V} : ∀ {fs : List (Str × V)}, ¬ f ∈ fs.map (·.1) → putF f v fs = fs ++ [(f, v)]
  | [], _ => rfl
  | (g, x) :: r, h => by
    have h1 : ¬ g = f := fun e => h (by rw [← e]; exact List.mem_cons_self)
    have h2 : ¬ f ∈ r.map (·.1) := fun m => h (List.mem_cons_of_mem _ m)
    show (if g = f then (g, v) :: r else (g, x) :: putF f v r) = _
    rw [if_neg h1, putF_new h2]
    rfl
/-- one field more is stored by __init__ -/
theorem fld_step {K : PySem.W.Frag} {D : Ends} {σ : L2.St} {H0 : Hp} {p C dx : Addr} {fs : List (Str × V)} {f : Str} {i : Nat} {v : V} (hi : σ[i]? = some (some v)) (h0 : σ[0]? = some (some (.ref p))) (cl : Cls K C) (na : NoAttr K C f)
    (hn : ¬ f ∈ fs.map (·.1)) (hl : fs.length < 1000) (k : D.nx σ (upd H0 p (.ins C dx (fs ++ [(f, v)])))) : sFld K (tVar 0) (tVar i) f D σ (upd H0 p (.ins C dx fs)) := by
  refine ⟨v, hi, _, h0, p, C, dx, fs, rfl, upd_same, cl, na, hl, ?_⟩
  rw [upd_upd, putF_new hn]
  exact k
/-- what such an __init__ promises -/
def spIni (C : Addr) (names : List Str) : Sp := fun vs H Q _ => ∃ (H0 : Hp) (p dx : Addr) (xs : List V), vs = .ref p :: xs ∧ xs.length = names.length ∧ H = upd H0 p (.ins C dx []) ∧ Q .non (upd H0 p (.ins C dx (names.zip xs)))
/-- an object of the class at C whose fields hold such data -/
structure Ob (K : PySem.W.Frag) (H : Hp) (C : Addr) (names : List Str) (a : Addr) (ds : List PyData) : Prop where
  ex : ∃ (dx : Addr) (xs : List V), H a = some (.ins C dx (names.zip xs)) ∧ DpAll K H xs ds ∧ xs.length = names.length
theorem Ob.same {K : PySem.W.Frag} {H H' : Hp} {C : Addr} {names : List Str} {a : Addr} {ds : List PyData} (o : Ob K H C names a ds) (s : Same H H') : Ob K H' C names a ds :=
  let ⟨dx, xs, h, d, l⟩ := o.ex; ⟨dx, xs, s _ _ h, dps_same s _ _ d, l⟩
theorem Ob.kp {K : PySem.W.Frag} {M : Addr → Prop} {H H' : Hp} {C : Addr} {names : List Str} {a : Addr} {ds : List PyData} (o : Ob K H C names a ds) (s : Kp M H H') (fl : flatDs ds = true) : Ob K H' C names a ds := by
  obtain ⟨dx, xs, h, d, l⟩ := o.ex
  refine ⟨dx, xs, s.st _ _ (fun m => ?_) h, dps_keep (fun _ _ q => s.tup q) _ _ fl d, l⟩
  obtain ⟨ys, e⟩ := s.l1 a m
  rw [h] at e
  cases e
/-- C(e, ..) makes an object with such fields -/
theorem made_ob {K : PySem.W.Frag} {C : Addr} {names : List Str} {H : Hp} {Q : VK} {vs : List V} {ds : List PyData} (hd : DpAll K H vs ds) (hl : vs.length = names.length) (k : ∀ p H', H p = none → Same H H' → Ob K H' C names p ds → Q (.ref p) H') :
    ∀ x dx, H x = none → H dx = none → dx ≠ x → spIni C names (.ref x :: (vs ++ [])) (upd (upd H dx (.own x)) x (.ins C dx [])) (fun v H' => v = .non ∧ Q (.ref x) H') E0 := fun x dx nx ndx ne => by
  refine ⟨upd H dx (.own x), x, dx, vs, by rw [List.append_nil], hl, rfl, rfl, ?_⟩
  have n2 : upd H dx (.own x) x = none := by
    rw [upd_ne ne.symm]
    exact nx
  have s : Same H (upd (upd H dx (.own x)) x (.ins C dx (names.zip vs))) := (same_new ndx).trans (same_new n2)
  exact k x _ nx s ⟨dx, vs, upd_same, dps_same s _ _ hd, hl⟩
theorem lookup_zip {f : Str} {v : V} : ∀ {names : List Str} {xs : List V} {i : Nat}, names.Nodup → names[i]? = some f → xs[i]? = some v → (names.zip xs).lookup f = some v
  | [], _, _, _, h, _ => by simp at h
  | _ :: _, [], _, _, _, h => by simp at h
  | g :: names, x :: xs, 0, nd, h1, h2 => by
    simp only [List.getElem?_cons_zero, Option.some.injEq] at h1 h2
    subst h1 h2
    show (match g == g with | true => some x | false => (names.zip xs).lookup g) = some x
    rw [beq_self_eq_true]
  | g :: names, x :: xs, i + 1, nd, h1, h2 => by
    rw [List.getElem?_cons_succ] at h1 h2
    have ne : (f == g) = false := by
      rw [beq_eq_false_iff_ne]
      intro e
      subst e
      exact (List.nodup_cons.mp nd).1 (List.mem_of_getElem? h1)
    show (match f == g with | true => some x | false => (names.zip xs).lookup f) = some v
    rw [ne]
    exact lookup_zip (List.nodup_cons.mp nd).2 h1 h2
theorem made_ob2 {K : PySem.W.Frag} {C : Addr} {names : List Str} {H : Hp} {vs : List V} {ds : List PyData} {x dx : Addr} (hd : DpAll K H vs ds) (hl : vs.length = names.length) (nx : H x = none) (ndx : H dx = none) (ne : dx ≠ x) :
    ∃ H', Same H H' ∧ Ob K H' C names x ds ∧ ∀ Q' : VK, Q' .non H' → spIni C names (.ref x :: (vs ++ [])) (upd (upd H dx (.own x)) x (.ins C dx [])) Q' E0 := by
  have n2 : upd H dx (.own x) x = none := by
    rw [upd_ne ne.symm]
    exact nx
  have s : Same H (upd (upd H dx (.own x)) x (.ins C dx (names.zip vs))) := (same_new ndx).trans (same_new n2)
  exact ⟨_, s, ⟨dx, vs, upd_same, dps_same s _ _ hd, hl⟩, fun Q' q => ⟨upd H dx (.own x), x, dx, vs, by rw [List.append_nil], hl, rfl, q⟩⟩
/-- a field is read -/
theorem ob_fld {K : PySem.W.Frag} {H : Hp} {C : Addr} {names : List Str} {a : Addr} {ds : List PyData} {f : Str} {Q : VK} (o : Ob K H C names a ds) (cl : Cls K C) (na : NoAttr K C f) (i : Nat) {d : PyData} (hd : ds[i]? = some d)
    (hf : names[i]? = some f) (nd : names.Nodup) (k : ∀ v, Dp K H v d → Q v H) :
    ∃ b C' dx fs v, (V.ref a) = .ref b ∧ H b = some (.ins C' dx fs) ∧ Cls K C' ∧ NoAttr K C' f ∧ fs.lookup f = some v ∧ Q v H := by
  obtain ⟨dx, xs, h, hx, l⟩ := o.ex
  obtain ⟨v, e, hv⟩ := DpAll.at hx hd
  exact ⟨a, C, dx, _, v, rfl, h, cl, na, lookup_zip nd hf e, k v hv⟩
theorem Ob.fld {K : PySem.W.Frag} {H : Hp} {C : Addr} {names : List Str} {a : Addr} {ds : List PyData} {f : Str} (o : Ob K H C names a ds) (i : Nat) {d : PyData} (hd : ds[i]? = some d) (hf : names[i]? = some f) (nd : names.Nodup) :
    ∃ dx fs v, H a = some (.ins C dx fs) ∧ fs.lookup f = some v ∧ Dp K H v d := by
  obtain ⟨dx, xs, h, hx, l⟩ := o.ex
  obtain ⟨v, e, hv⟩ := DpAll.at hx hd
  exact ⟨dx, _, v, h, lookup_zip nd hf e, hv⟩
/-- what changed was new -/
theorem kp_new {H H' : Hp} {L : Addr} {o : HO} (hL : H L = none) (kp : Kp (fun x => x = L) (upd H L o) H') : Same H H' := fun b u e => by
  have n : b ≠ L := ne_of_none e hL
  exact kp.st b u n (by rw [upd_ne n]; exact e)
theorem ref_not_non {t : Addr} : (!decide (V.ref t = V.non)) = true := by
  rw [decide_eq_false (by intro z; cases z)]
  rfl
theorem non_non : (!decide (V.non = V.non)) = false := by
  rw [decide_eq_true rfl]
  rfl
theorem kit_self {K : PySem.W.Frag} {C : Addr} : PySem.W.kitOne K (.ref C) (.ref C) = some true := if_pos (by simp)
theorem eqv_all (d : PyData) (h : SeqAt.shaped d = true) : PyData.eqv d d = true := SeqAt.eqv_refl d (SeqAt.canLay_of_shaped h)
/-- the answer of an __eq__ over all fields -/
def eqs : List PyData → List PyData → Bool
  | d :: ds, e :: es => PyData.eqv d e && eqs ds es
  | _, _ => true
theorem eqs_refl : ∀ ds : List PyData, (∀ d ∈ ds, SeqAt.shaped d = true) → eqs ds ds = true
  | [], _ => rfl
  | d :: ds, h => by
    show (PyData.eqv d d && eqs ds ds) = true
    rw [eqv_all d (h d List.mem_cons_self), eqs_refl ds fun e m => h e (List.mem_cons_of_mem _ m)]
    rfl
def spEqA (K : PySem.W.Frag) (C : Addr) (names : List Str) : Sp := fun vs H Q _ => ∃ (a b : Addr) (ds es : List PyData), vs = [.ref a, .ref b] ∧ Ob K H C names a ds ∧ Ob K H C names b es ∧ (∀ d ∈ ds, SeqAt.shaped d = true) ∧ (∀ d ∈ es, SeqAt.shaped d = true) ∧ Q (.bl (eqs ds es)) H
theorem fld_eq {K : PySem.W.Frag} {H : Hp} {C : Addr} {names : List Str} {a b : Addr} {ds es : List PyData} {f : Str} {σ : L2.St} {Q : VK} (i : Nat) {d e : PyData} (o : Ob K H C names a ds) (o' : Ob K H C names b es) (cl : Cls K C) (na : NoAttr K C f)
    (h0 : σ[0]? = some (some (.ref a))) (h1 : σ[1]? = some (some (.ref b))) (hd : ds[i]? = some d) (he : es[i]? = some e) (hf : names[i]? = some f) (nd : names.Nodup) (sd : ∀ d ∈ ds, SeqAt.shaped d = true) (se : ∀ d ∈ es, SeqAt.shaped d = true)
    (k : Q (.bl (PyData.eqv d e)) H) : tOp (rEqD K) (tFld K (tVar 0) f) (tFld K (tVar 1) f) σ H Q :=
  ⟨_, h0, ob_fld (Q := fun x H1 => tFld K (tVar 1) f σ H1 fun y H2 => rEqD K x y H2 Q) o cl na i hd hf nd fun v hv =>
    ⟨_, h1, ob_fld (Q := fun y H2 => rEqD K v y H2 Q) o' cl na i he hf nd fun _ hu => ⟨d, e, hv, hu, sd d (List.mem_of_getElem? hd), se e (List.mem_of_getElem? he), k⟩⟩⟩
theorem and_fld {K : PySem.W.Frag} {H : Hp} {C : Addr} {names : List Str} {a b : Addr} {ds es : List PyData} {f : Str} {σ : L2.St} {Q : VK} {rest : TE} (i : Nat) {d e : PyData} (o : Ob K H C names a ds) (o' : Ob K H C names b es) (cl : Cls K C) (na : NoAttr K C f)
    (h0 : σ[0]? = some (some (.ref a))) (h1 : σ[1]? = some (some (.ref b))) (hd : ds[i]? = some d) (he : es[i]? = some e) (hf : names[i]? = some f) (nd : names.Nodup) (sd : ∀ d ∈ ds, SeqAt.shaped d = true) (se : ∀ d ∈ es, SeqAt.shaped d = true)
    (k1 : PyData.eqv d e = true → rest σ H Q) (k0 : PyData.eqv d e = false → Q (.bl false) H) : tAndV (tOp (rEqD K) (tFld K (tVar 0) f) (tFld K (tVar 1) f)) rest σ H Q := by
  refine fld_eq i o o' cl na h0 h1 hd he hf nd sd se ⟨_, rfl, ?_⟩
  cases e2 : PyData.eqv d e with
  | true => exact iteT (k1 e2)
  | false => exact iteF (k0 e2)
theorem eqs_t {d e : PyData} {ds es : List PyData} (h : PyData.eqv d e = true) : eqs (d :: ds) (e :: es) = eqs ds es := by
  show (PyData.eqv d e && eqs ds es) = _
  rw [h, Bool.true_and]
theorem eqs_f {d e : PyData} {ds es : List PyData} (h : PyData.eqv d e = false) : eqs (d :: ds) (e :: es) = false := by
  show (PyData.eqv d e && eqs ds es) = _
  rw [h, Bool.false_and]
/-- facts of a plain class -/
structure ClsT (K : PySem.W.Frag) (mg : Str → Option Value) (x : Str) (C : Addr) (names : List Str) : Prop where
  ins : C8.InsC K C
  mg : mg x = some (.ref C)
  no : ∀ f ∈ names, NoAttr K C f
theorem Ob.ins {K : PySem.W.Frag} {H : Hp} {C : Addr} {names : List Str} {a : Addr} {ds : List PyData} (o : Ob K H C names a ds) : ∃ dx fs, H a = some (.ins C dx fs) := let ⟨dx, _, h, _⟩ := o.ex; ⟨dx, _, h⟩
/-- x == y over two such objects -/
theorem eq_ob {K : PySem.W.Frag} {H : Hp} {C : Addr} {names : List Str} {a b : Addr} {ds es : List PyData} {Q : VK} (o : Ob K H C names a ds) (o' : Ob K H C names b es) (h1 : ∀ d ∈ ds, SeqAt.shaped d = true) (h2 : ∀ d ∈ es, SeqAt.shaped d = true)
    (k : Q (.bl (eqs ds es)) H) : rEqO C (spEqA K C names) (.ref a) (.ref b) H Q := by
  obtain ⟨dx, fs, e⟩ := o.ins
  obtain ⟨dy, gs, e'⟩ := o'.ins
  exact ⟨a, b, dx, dy, fs, gs, rfl, rfl, e, e', a, b, ds, es, rfl, o, o', h1, h2, _, rfl, k⟩
end Cm

namespace K06
open PySem L2 Cm
abbrev namesS : List Str := ["callee", "handed", "frames", "things", "born", "calls", "asked", "shown"]
theorem eight {α : Type} {xs : List α} (h : xs.length = 8) : ∃ a b c d e f g i, xs = [a, b, c, d, e, f, g, i] := by
  match xs, h with
  | [a, b, c, d, e, f, g, i], _ => exact ⟨a, b, c, d, e, f, g, i, rfl⟩
section
variable {P : Program} {w : World} {K : PySem.W.Frag} {mg : Str → Option Value} {base : Heap}
abbrev s_SI : Stmt := inClass (top 1) 0
abbrev s_SE : Stmt := inClass (top 1) 1
abbrev N_SI : List Str := ["self", "callee", "handed", "frames", "things", "born", "calls", "asked", "shown"]
theorem sc_SI : FnScope N_SI N_SI (defScope s_SI) := ⟨rfl, rfl, rfl, by decide +kernel, rfl, by decide +kernel, by decide +kernel⟩
theorem ok_SI {C f : Addr} {fd : FuncData} (F : Fun K "__init__" "Standing.__init__" s_SI f fd) (T : ClsT K mg "Standing" C namesS) : FnOk P w K mg base CX0 1 f fd N_SI (spIni C namesS) := by
  refine F.ok sc_SI (fun vs H Q E h => ?_) (fun cdv A outer s H vs Q E hr h => ?_)
  · obtain ⟨H0, p, dx, xs, rfl, hl, _⟩ := h
    exact congrArg (· + 1) hl
  · obtain ⟨H0, p, dx, xs, rfl, hl, rfl, k⟩ := h
    obtain ⟨x1, x2, x3, x4, x5, x6, x7, x8, rfl⟩ := eight hl
    refine ⟨_, (pss_cons (ps_fld (pv 0) (pv 1) rfl) (pss_cons (ps_fld (pv 0) (pv 2) rfl) (pss_cons (ps_fld (pv 0) (pv 3) rfl) (pss_cons (ps_fld (pv 0) (pv 4) rfl)
      (pss_cons (ps_fld (pv 0) (pv 5) rfl) (pss_cons (ps_fld (pv 0) (pv 6) rfl) (pss_cons (ps_fld (pv 0) (pv 7) rfl) (pss_one (ps_fld (pv 0) (pv 8) rfl))))))))), ?_⟩
    refine fld_step rfl rfl T.ins.cl (T.no _ (by decide +kernel)) (by decide +kernel) (by show 0 < 1000; decide) ?_
    refine fld_step rfl rfl T.ins.cl (T.no _ (by decide +kernel)) (by show ¬ ("handed" : Str) ∈ (["callee"] : List Str); decide +kernel) (by show 1 < 1000; decide) ?_
    refine fld_step rfl rfl T.ins.cl (T.no _ (by decide +kernel)) (by show ¬ ("frames" : Str) ∈ (["callee", "handed"] : List Str); decide +kernel) (by show 2 < 1000; decide) ?_
    refine fld_step rfl rfl T.ins.cl (T.no _ (by decide +kernel)) (by show ¬ ("things" : Str) ∈ (["callee", "handed", "frames"] : List Str); decide +kernel) (by show 3 < 1000; decide) ?_
    refine fld_step rfl rfl T.ins.cl (T.no _ (by decide +kernel)) (by show ¬ ("born" : Str) ∈ (["callee", "handed", "frames", "things"] : List Str); decide +kernel) (by show 4 < 1000; decide) ?_
    refine fld_step rfl rfl T.ins.cl (T.no _ (by decide +kernel)) (by show ¬ ("calls" : Str) ∈ (["callee", "handed", "frames", "things", "born"] : List Str); decide +kernel) (by show 5 < 1000; decide) ?_
    refine fld_step rfl rfl T.ins.cl (T.no _ (by decide +kernel)) (by show ¬ ("asked" : Str) ∈ (["callee", "handed", "frames", "things", "born", "calls"] : List Str); decide +kernel) (by show 6 < 1000; decide) ?_
    refine fld_step rfl rfl T.ins.cl (T.no _ (by decide +kernel)) (by show ¬ ("shown" : Str) ∈ (["callee", "handed", "frames", "things", "born", "calls", "asked"] : List Str); decide +kernel) (by show 7 < 1000; decide) ?_
    exact k
theorem sc_SE : FnScope ["self", "other"] ["self", "other"] (defScope s_SE) := ⟨rfl, rfl, rfl, by decide +kernel, rfl, by decide +kernel, by decide +kernel⟩
theorem ok_SE {C f : Addr} {fd : FuncData} (T0 : Txt mg) (F : Fun K "__eq__" "Standing.__eq__" s_SE f fd) (T : ClsT K mg "Standing" C namesS) : FnOk P w K mg base CX0 1 f fd ["self", "other"] (spEqA K C namesS) := by
  refine F.ok sc_SE (fun vs H Q E h => ?_) (fun cdv A outer s H vs Q E hr h => ?_)
  · obtain ⟨a, b, ds, es, rfl, _⟩ := h
    rfl
  · obtain ⟨a, b, ds, es, rfl, o, o', h1, h2, k⟩ := h
    obtain ⟨dx, xs, hA, hd, hl⟩ := o.ex
    obtain ⟨dy, ys, hB, he, hl'⟩ := o'.ex
    obtain ⟨d1, d2, d3, d4, d5, d6, d7, d8, rfl⟩ := eight ((DpAll.len hd).symm.trans hl)
    obtain ⟨e1, e2, e3, e4, e5, e6, e7, e8, rfl⟩ := eight ((DpAll.len he).symm.trans hl')
    refine ⟨_, (pss_one (ps_ret (pe_and (pe_callB (C8.call_isC T.ins) (by rfl) T0.isinstance (by decide +kernel) (pa_cons (pv 1) (pa_cons (C8.pe_gc (v := .ref C) (by rfl) ⟨_, T.mg, rfl⟩) pa_nil)))
      (pe_and (pe_cmpR (op_eqD hr.units) (pe_fld (pv 0) rfl) (pe_fld (pv 1) rfl) (nomark _)) (pe_and (pe_cmpR (op_eqD hr.units) (pe_fld (pv 0) rfl) (pe_fld (pv 1) rfl) (nomark _))
      (pe_and (pe_cmpR (op_eqD hr.units) (pe_fld (pv 0) rfl) (pe_fld (pv 1) rfl) (nomark _)) (pe_and (pe_cmpR (op_eqD hr.units) (pe_fld (pv 0) rfl) (pe_fld (pv 1) rfl) (nomark _))
      (pe_and (pe_cmpR (op_eqD hr.units) (pe_fld (pv 0) rfl) (pe_fld (pv 1) rfl) (nomark _)) (pe_and (pe_cmpR (op_eqD hr.units) (pe_fld (pv 0) rfl) (pe_fld (pv 1) rfl) (nomark _))
      (pe_and (pe_cmpR (op_eqD hr.units) (pe_fld (pv 0) rfl) (pe_fld (pv 1) rfl) (nomark _)) (pe_one (pe_cmpR (op_eqD hr.units) (pe_fld (pv 0) rfl) (pe_fld (pv 1) rfl) (nomark _))))))))))))), ?_⟩
    refine ⟨_, rfl, b, dy, _, rfl, hB, _, rfl, ?_⟩
    refine iteT ?_
    refine and_fld 0 o o' T.ins.cl (T.no _ (by decide +kernel)) rfl rfl rfl rfl rfl (by decide +kernel) h1 h2 (fun g1 => ?_) (fun g => by rw [eqs_f g] at k; exact k)
    rw [eqs_t g1] at k
    refine and_fld 1 o o' T.ins.cl (T.no _ (by decide +kernel)) rfl rfl rfl rfl rfl (by decide +kernel) h1 h2 (fun g1 => ?_) (fun g => by rw [eqs_f g] at k; exact k)
    rw [eqs_t g1] at k
    refine and_fld 2 o o' T.ins.cl (T.no _ (by decide +kernel)) rfl rfl rfl rfl rfl (by decide +kernel) h1 h2 (fun g1 => ?_) (fun g => by rw [eqs_f g] at k; exact k)
    rw [eqs_t g1] at k
    refine and_fld 3 o o' T.ins.cl (T.no _ (by decide +kernel)) rfl rfl rfl rfl rfl (by decide +kernel) h1 h2 (fun g1 => ?_) (fun g => by rw [eqs_f g] at k; exact k)
    rw [eqs_t g1] at k
    refine and_fld 4 o o' T.ins.cl (T.no _ (by decide +kernel)) rfl rfl rfl rfl rfl (by decide +kernel) h1 h2 (fun g1 => ?_) (fun g => by rw [eqs_f g] at k; exact k)
    rw [eqs_t g1] at k
    refine and_fld 5 o o' T.ins.cl (T.no _ (by decide +kernel)) rfl rfl rfl rfl rfl (by decide +kernel) h1 h2 (fun g1 => ?_) (fun g => by rw [eqs_f g] at k; exact k)
    rw [eqs_t g1] at k
    refine and_fld 6 o o' T.ins.cl (T.no _ (by decide +kernel)) rfl rfl rfl rfl rfl (by decide +kernel) h1 h2 (fun g1 => ?_) (fun g => by rw [eqs_f g] at k; exact k)
    rw [eqs_t g1] at k
    refine fld_eq 7 o o' T.ins.cl (T.no _ (by decide +kernel)) rfl rfl rfl rfl rfl (by decide +kernel) h1 h2 ?_
    have e : eqs [d8] [e8] = PyData.eqv d8 e8 := by
      show (PyData.eqv d8 e8 && true) = _
      rw [Bool.and_true]
    rw [e] at k
    exact k
end
end K06

namespace K06
open PySem L2 Cm
def spSt (K : PySem.W.Frag) (C : Addr) : Sp := fun vs H Q _ => ∃ (l : Addr) (xs : List V) (ds : List PyData), vs = [.ref l] ∧ SqL K H l xs ∧ xs.length = 8 ∧ DpAll K H xs ds ∧ ∀ (p : Addr) (H' : Hp), Same H H' → Ob K H' C namesS p ds → Q (.ref p) H'
section
variable {P : Program} {w : World} {K : PySem.W.Frag} {mg : Str → Option Value} {base : Heap}
abbrev s_l_standing : Stmt := top 29
abbrev N_l_standing : List Str := ["_law_fields"]
theorem sc_l_standing : FnScope N_l_standing ["_law_fields"] (defScope s_l_standing) := ⟨rfl, rfl, rfl, by decide +kernel, rfl, by decide +kernel, by decide +kernel⟩
theorem ok_l_standing {C : Addr} (mkS : MkC P w K mg base 1 "Standing" C (spIni C namesS)) (D : At K mg "_law_standing" s_l_standing ["_law_fields"]) : Cl P w K mg base 3 "_law_standing" (spSt K C) := by
  refine cl_of (k := 2) D sc_l_standing (fun vs H Q E h => ?_) fun f cdv A outer s H vs Q E hr h => ?_
  · obtain ⟨l, xs, ds, rfl, _⟩ := h
    rfl
  · obtain ⟨l, xs, ds, rfl, hl, h8, hd, k⟩ := h
    obtain ⟨x1, x2, x3, x4, x5, x6, x7, x8, rfl⟩ := eight h8
    refine ⟨_, (pss_one (ps_ret (pe_mkC mkS hr (by decide) (by rfl) (pa_cons (pe_ix ix_list (pv 0) pe_int (fun _ _ => rfl)) (pa_cons (pe_ix ix_list (pv 0) pe_int (fun _ _ => rfl)) (pa_cons (pe_ix ix_list (pv 0) pe_int (fun _ _ => rfl)) (pa_cons (pe_ix ix_list (pv 0) pe_int (fun _ _ => rfl)) (pa_cons (pe_ix ix_list (pv 0) pe_int (fun _ _ => rfl)) (pa_cons (pe_ix ix_list (pv 0) pe_int (fun _ _ => rfl)) (pa_cons (pe_ix ix_list (pv 0) pe_int (fun _ _ => rfl)) (pa_cons (pe_ix ix_list (pv 0) pe_int (fun _ _ => rfl)) pa_nil))))))))))), ?_⟩
    refine ⟨_, rfl, l, _, _, _, rfl, rfl, hl, atI_nat (j := 0) rfl, _, rfl, l, _, _, _, rfl, rfl, hl, atI_nat (j := 1) rfl, _, rfl, l, _, _, _, rfl, rfl, hl, atI_nat (j := 2) rfl, _, rfl, l, _, _, _, rfl, rfl, hl, atI_nat (j := 3) rfl, _, rfl, l, _, _, _, rfl, rfl, hl, atI_nat (j := 4) rfl, _, rfl, l, _, _, _, rfl, rfl, hl, atI_nat (j := 5) rfl, _, rfl, l, _, _, _, rfl, rfl, hl, atI_nat (j := 6) rfl, _, rfl, l, _, _, _, rfl, rfl, hl, atI_nat (j := 7) rfl, ?_⟩
    intro x dx nx ndx ne
    obtain ⟨H2, s2, ob, fin⟩ := made_ob2 (K := K) (C := C) (names := namesS) hd rfl nx ndx ne
    exact fin _ ⟨rfl, k x H2 s2 ob⟩
end
end K06

namespace K06
open PySem L2 Cm
theorem eqvAll_len : ∀ {a b : List PyData}, PyData.eqvAll a b = true → a.length = b.length
  | [], [], _ => rfl
  | [], _ :: _, h => by simp [PyData.eqvAll] at h
  | _ :: _, [], h => by simp [PyData.eqvAll] at h
  | x :: a, y :: b, h => by
    simp only [PyData.eqvAll, Bool.and_eq_true] at h
    rw [List.length_cons, List.length_cons, eqvAll_len h.2]
theorem more_ne (a b : List PyData) (d : PyData) : PyData.eqv (.tuple a) (.tuple (a ++ d :: b)) = false := by
  cases h : PyData.eqv (.tuple a) (.tuple (a ++ d :: b)) with
  | false => rfl
  | true =>
    have := eqvAll_len (show PyData.eqvAll a (a ++ d :: b) = true from h)
    rw [List.length_append, List.length_cons] at this
    omega
theorem int_ne {a b : Int} (h : a ≠ b) : PyData.eqv (.int a) (.int b) = false := by
  show (a == b) = false
  exact beq_eq_false_iff_ne.mpr h
theorem lay_W {w : W} (o : w.ok) : Lay 1 w.enc := by
  cases w with
  | int i => exact .int i 1
  | con c =>
    refine .tup fun d m => ?_
    rw [List.mem_singleton.mp m]
    refine .str ?_ 0
    have o' : c ∈ conW := o
    simp only [List.mem_cons, List.not_mem_nil, or_false] at o'
    rcases o' with rfl | rfl | rfl <;> decide +kernel
  | ref x b =>
    refine .tup fun d m => ?_
    rcases List.mem_cons.mp m with rfl | m
    · refine .str ?_ 0
      have o' : x ∈ refW := o.1
      simp only [List.mem_cons, List.not_mem_nil, or_false] at o'
      rcases o' with rfl | rfl | rfl <;> decide +kernel
    · rw [List.mem_singleton.mp m]
      exact .int b 0
theorem eqs_set : ∀ {ds : List PyData} {j : Nat} {d e : PyData}, ds[j]? = some d → PyData.eqv d e = false → eqs ds (ds.set j e) = false
  | [], _, _, _, h, _ => by simp at h
  | a :: ds, 0, d, e, h, q => by
    simp only [List.getElem?_cons_zero, Option.some.injEq] at h
    subst h
    show (PyData.eqv a e && _) = false
    rw [q]
    rfl
  | a :: ds, j + 1, d, e, h, q => by
    rw [List.getElem?_cons_succ] at h
    show (PyData.eqv a a && eqs ds (ds.set j e)) = false
    rw [eqs_set h q, Bool.and_false]
theorem dps_set {K : PySem.W.Frag} {H : Hp} {v : V} {e : PyData} (hv : Dp K H v e) : ∀ {vs : List V} {ds : List PyData} {j : Nat}, DpAll K H vs ds → DpAll K H (vs.set j v) (ds.set j e)
  | _, _, _, .nil => .nil
  | _, _, 0, .cons _ r => .cons hv r
  | _, _, j + 1, .cons a r => .cons a (dps_set hv r)
/-- the other truth -/
theorem con_ne {w : W} (h : PyData.eqv w.enc (.tuple [.str "true"]) = true) : PyData.eqv w.enc (.tuple [.str "false"]) = false := by
  cases w with
  | int i => rfl
  | con c =>
    have e := eqv_con c "true"
    rw [show (W.con c).enc = .tuple [.str c] from rfl, eqv_con] at h
    rw [show (W.con c).enc = .tuple [.str c] from rfl, eqv_con]
    have : "true" = c := of_decide_eq_true h
    rw [← this]
    decide +kernel
  | ref x b =>
    have := eqvAll_len (show PyData.eqvAll [.str x, .int b] [.str "true"] = true from h)
    cases this
abbrev flds (c : W) (ws : List W) (fs : List Int) (ts : List PyData) (b1 b2 b3 b4 : Int) : List PyData := [c.enc, wsT ws, intsT fs, .tuple ts, .int b1, .int b2, .int b3, .int b4]
def spCh (K : PySem.W.Frag) : Sp := fun vs H Q _ => ∃ (h cc l : Addr) (xs : List V) (c : W) (ws : List W) (fs : List Int) (ts : List PyData) (b1 b2 b3 b4 : Int), vs = [.ref h, .ref l] ∧ Hand H h cc ∧ l ≠ h ∧ H l = some (.lst xs) ∧ xs.length = 8 ∧ DpAll K H xs (flds c ws fs ts b1 b2 b3 b4) ∧ flatDs ts = true ∧ c.ok ∧ (∀ x ∈ ws, x.ok) ∧ (∀ t ∈ ts, Lay 8 t) ∧
  ws.length ≤ 100 ∧ fs.length ≤ 100 ∧ ts.length ≤ 100 ∧
  ∀ (r : Addr) (ys : List V) (es : List PyData) (H' : Hp), Kh h H H' → Hand H' h cc → r ≠ h → H' r = some (.lst ys) → ys.length = 8 → DpAll K H' ys es → (∀ d ∈ es, Lay 9 d) → eqs (flds c ws fs ts b1 b2 b3 b4) es = false → Q (.ref r) H'
section
variable {P : Program} {w : World} {K : PySem.W.Frag} {mg : Str → Option Value} {base : Heap}
abbrev s_l_changed : Stmt := top 28
abbrev N_l_changed : List Str := ["_law_hand_here", "_law_fields", "_law_at", "_law_other"]
theorem sc_l_changed : FnScope N_l_changed ["_law_hand_here", "_law_fields"] (defScope s_l_changed) := ⟨rfl, rfl, rfl, by decide +kernel, rfl, by decide +kernel, by decide +kernel⟩
theorem lay_ws {ws : List W} (h : ∀ x ∈ ws, x.ok) : Lay 2 (wsT ws) := .tup fun d m => by
  obtain ⟨x, mx, rfl⟩ := List.mem_map.mp m
  exact lay_W (h x mx)
theorem lay_fs (fs : List Int) : Lay 1 (intsT fs) := .tup fun d m => by
  obtain ⟨x, mx, rfl⟩ := List.mem_map.mp m
  exact .int x 0
theorem lay_flds {c : W} {ws : List W} {fs : List Int} {ts : List PyData} {b1 b2 b3 b4 : Int} (oc : c.ok) (ow : ∀ x ∈ ws, x.ok) (ot : ∀ t ∈ ts, Lay 8 t) : ∀ d ∈ flds c ws fs ts b1 b2 b3 b4, Lay 9 d := by
  intro d m
  simp only [List.mem_cons, List.not_mem_nil, or_false] at m
  rcases m with rfl | rfl | rfl | rfl | rfl | rfl | rfl | rfl
  · exact (lay_W oc).mono (by decide)
  · exact (lay_ws ow).mono (by decide)
  · exact (lay_fs fs).mono (by decide)
  · exact .tup ot
  · exact .int _ _
  · exact .int _ _
  · exact .int _ _
  · exact .int _ _
theorem flat_more {a : List PyData} {d : PyData} (h : flatDs a = true) (k : flatD d = true) : flatD (.tuple (a ++ [d])) = true := by
  show flatDs (a ++ [d]) = true
  exact flatDs_app h (by simp [flatDs, k])
theorem lay_more {n : Nat} {a : List PyData} {d : PyData} (h : ∀ x ∈ a, Lay n x) (k : Lay n d) : Lay (n + 1) (.tuple (a ++ [d])) := .tup fun x m => by
  rcases List.mem_append.mp m with m | m
  · exact h x m
  · rw [List.mem_singleton.mp m]; exact k
theorem flat_ws (ws : List W) : flatDs (ws.map W.enc) = true := flatDs_of _ fun d m => by
  obtain ⟨x, _, rfl⟩ := List.mem_map.mp m
  exact flat_W x
theorem flat_fs (fs : List Int) : flatDs (fs.map PyData.int) = true := flatDs_of _ fun d m => by
  obtain ⟨x, _, rfl⟩ := List.mem_map.mp m
  rfl
theorem flat_flds {c : W} {ws : List W} {fs : List Int} {ts : List PyData} {b1 b2 b3 b4 : Int} (ft : flatDs ts = true) : flatDs (flds c ws fs ts b1 b2 b3 b4) = true := by
  simp [flatD, flatDs, flat_W, flat_wsT, flat_intsT, ft]
theorem ok_changed (T : Txt mg) (c_l_draw : Cl P w K mg base 2 "_law_draw" spDraw) (D : At K mg "_law_changed" s_l_changed ["_law_hand_here", "_law_fields"]) : Cl P w K mg base 3 "_law_changed" (spCh K) := by
  refine cl_of (k := 2) D sc_l_changed (fun vs H Q E h => ?_) fun f cdv A outer s H vs Q E hr h => ?_
  · obtain ⟨h, cc, l, xs, c, ws, fs, ts, b1, b2, b3, b4, rfl, _⟩ := h
    rfl
  · obtain ⟨h, cc, l, xs, c, ws, fs, ts, b1, b2, b3, b4, rfl, hh, nl, hl, h8, hd, ft, oc, ow, ot, lw, lf, lt, k⟩ := h
    refine ⟨_, (pss_cons (ps_set (i := 2) sc_l_changed.nd rfl (Or.inl rfl) (pe_c c_l_draw hr (by decide) (by rfl) (pa_cons (pv 0) (pa_cons pe_int pa_nil))))
      (pss_cons (ps_set (i := 3) sc_l_changed.nd rfl (Or.inl rfl) (pe_callTy call_list_of (by rfl) T.list (by decide +kernel) (pa_cons (pv 1) pa_nil)))
      (pss_mid (ps_if (pt_cmpR op_eq (pv 2) pe_int (nomark _))
        (pss_one (ps_asg (pe_ifExp (pt_cmpR (op_eqD hr.units) (pe_ix ix_list (pv 1) pe_int (fun _ _ => rfl)) (pe_tup (pa_cons pe_str pa_nil)) (nomark _)) (pe_tup (pa_cons pe_str pa_nil)) (pe_tup (pa_cons pe_str pa_nil))) (pg_sub (pv 3) pe_int set_list)))
        (pss_one (ps_if (pt_cmpR op_in_seq (pv 2) (pe_tup (pa_cons pe_int (pa_cons pe_int pa_nil))) (by rfl))
          (pss_one (ps_asg (pe_op op_catA (pe_ix ix_list (pv 1) (pv 2) (fun _ _ => rfl)) (pe_tup (pa_cons pe_int pa_nil))) (pg_sub (pv 3) (pv 2) set_list)))
          (pss_one (ps_if (pt_cmpR op_eq (pv 2) pe_int (nomark _))
            (pss_one (ps_asg (pe_op op_catA (pe_ix ix_list (pv 1) pe_int (fun _ _ => rfl)) (pe_tup (pa_cons (pe_tup (pa_cons pe_int (pa_cons (pe_tup (pa_cons pe_str pa_nil)) pa_nil))) pa_nil))) (pg_sub (pv 3) pe_int set_list)))
            (pss_one (ps_asg (pe_op op_add (pe_op op_add (pe_ix ix_list (pv 1) (pv 2) (fun _ _ => rfl)) pe_int) (pe_c c_l_draw hr (by decide) (by rfl) (pa_cons (pv 0) (pa_cons (pe_op op_pow pe_int pe_int) pa_nil)))) (pg_sub (pv 3) (pv 2) set_list))))))))
      (pss_one (ps_ret (pv 3)))))), ?_⟩
    obtain ⟨x1, x2, x3, x4, x5, x6, x7, x8, rfl⟩ := eight h8
    refine ⟨_, rfl, h, cc, 8, rfl, hh, by decide, by decide, fun n H1 n1a n1b k1 hh1 => ?_⟩
    have hl1 := k1.st _ _ nl hl
    have hd1 : DpAll K H1 _ _ := dps_keep (fun _ _ q => k1.tup q) _ _ (flat_flds ft) hd
    refine ⟨_, rfl, l, _, rfl, .inl (.inl (.inl hl1)), fun o ho => ?_⟩
    have s2 := same_new (o := .lst [x1, x2, x3, x4, x5, x6, x7, x8]) ho
    have hl2 := s2 _ _ hl1
    have ho2 : upd H1 o (.lst [x1, x2, x3, x4, x5, x6, x7, x8]) o = some (.lst [x1, x2, x3, x4, x5, x6, x7, x8]) := upd_same
    have hd2 := dps_same s2 _ _ hd1
    have hh2 := hh1.same s2
    have k2 := k1.trans (hh1.kh s2)
    have no : o ≠ h := (hh1.there ho).1
    have noc : o ≠ cc := (hh1.there ho).2
    have nol : o ≠ l := fun z => by rw [z, hl1] at ho; cases ho
    have ho0 : H o = none := k1.free ho
    have hd0 := hd
    generalize upd H1 o (.lst [x1, x2, x3, x4, x5, x6, x7, x8]) = H2 at *
    obtain ⟨d1, d2, d3, d4, d5, d6, d7, d8⟩ : Dp K H2 x1 c.enc ∧ Dp K H2 x2 (wsT ws) ∧ Dp K H2 x3 (intsT fs) ∧ Dp K H2 x4 (.tuple ts) ∧ Dp K H2 x5 (.int b1) ∧ Dp K H2 x6 (.int b2) ∧ Dp K H2 x7 (.int b3) ∧ Dp K H2 x8 (.int b4) := by
      cases hd2 with | cons a1 r => cases r with | cons a2 r => cases r with | cons a3 r => cases r with | cons a4 r => cases r with | cons a5 r => cases r with | cons a6 r => cases r with | cons a7 r => cases r with | cons a8 r => exact ⟨a1, a2, a3, a4, a5, a6, a7, a8⟩
    have fin : ∀ (j : Nat) (d e : PyData) (v : V) (H5 : Hp), Kh h H2 H5 → Hand H5 h cc → Dp K H5 v e → flatD e = true → Lay 9 e → (flds c ws fs ts b1 b2 b3 b4)[j]? = some d → PyData.eqv d e = false →
        H5 o = some (.lst [x1, x2, x3, x4, x5, x6, x7, x8]) ∧ ∃ (ys : List V) (es : List PyData), [some (V.ref h), some (V.ref l), some (V.int n), some (V.ref o)] = [some (V.ref h), some (V.ref l), some (V.int n), some (V.ref o)] ∧ Kh h H (upd H5 o (.lst ([x1, x2, x3, x4, x5, x6, x7, x8].set j v))) ∧ Hand (upd H5 o (.lst ([x1, x2, x3, x4, x5, x6, x7, x8].set j v))) h cc ∧
          upd H5 o (.lst ([x1, x2, x3, x4, x5, x6, x7, x8].set j v)) o = some (.lst ys) ∧ ys.length = 8 ∧ DpAll K (upd H5 o (.lst ([x1, x2, x3, x4, x5, x6, x7, x8].set j v))) ys es ∧ (∀ d ∈ es, Lay 9 d) ∧ eqs (flds c ws fs ts b1 b2 b3 b4) es = false := fun j d e v H5 k5 hh5 hv fe le ed ne => by
      have ho5 := k5.st _ _ no ho2
      have hd5 := dps_keep (fun _ _ q => k5.tup q) _ _ (flat_flds ft) hd2
      have up := dps_set (j := j) (dp_keep (fun _ _ q => sqt_put (zs := [x1, x2, x3, x4, x5, x6, x7, x8].set j v) ho5 q) _ _ fe hv) (dps_keep (fun _ _ q => sqt_put (zs := [x1, x2, x3, x4, x5, x6, x7, x8].set j v) ho5 q) _ _ (flat_flds ft) hd5)
      refine ⟨ho5, _, _, rfl, (k2.trans k5).mut ho0, hh5.puts no noc, upd_same, by rw [List.length_set]; rfl, up, fun x mx => ?_, eqs_set ed ne⟩
      rcases List.mem_or_eq_of_mem_set mx with q | q
      · exact lay_flds oc ow ot x q
      · rw [q]; exact le
    refine ⟨fun σ' H' => ∃ (ys : List V) (es : List PyData), σ' = [some (.ref h), some (.ref l), some (.int n), some (.ref o)] ∧ Kh h H H' ∧ Hand H' h cc ∧ H' o = some (.lst ys) ∧ ys.length = 8 ∧ DpAll K H' ys es ∧ (∀ d ∈ es, Lay 9 d) ∧ eqs (flds c ws fs ts b1 b2 b3 b4) es = false, ?_, ?_⟩
    · refine ⟨_, rfl, rfl, _, rfl, ?_⟩
      refine ite2 (fun z => ?_) (fun z => ?_)
      · refine ⟨_, rfl, l, _, _, _, rfl, rfl, .inl (.inl hl2), atI_nat (j := 0) rfl, by show 1 ≤ sizeLine; decide, fun p hp => ?_⟩
        have s3 := same_new (o := .tup [V.str "true"]) hp
        refine ⟨c.enc, .tuple [.str "true"], dp_same s3 _ _ d1, .tup (.inl (.inl upd_same)) (.cons (.str _) .nil), (lay_W oc).sh (by decide), by decide +kernel, _, rfl, ?_⟩
        refine ite2 (fun z1 => ?_) (fun z1 => ?_)
        · refine ⟨by show 1 ≤ sizeLine; decide, fun q hq => ?_⟩
          have s4 := same_new (o := .tup [V.str "false"]) hq
          have s34 := s3.trans s4
          obtain ⟨e1, e2⟩ := fin 0 c.enc (.tuple [.str "false"]) (.ref q) _ (hh2.kh s34) (hh2.same s34) (.tup (.inl (.inl upd_same)) (.cons (.str _) .nil)) rfl (.tup fun d m => by rw [List.mem_singleton.mp m]; exact .str (by decide +kernel) _) rfl (con_ne z1)
          exact ⟨_, rfl, o, _, 0, 0, rfl, rfl, e1, rfl, e2⟩
        · refine ⟨by show 1 ≤ sizeLine; decide, fun q hq => ?_⟩
          have s4 := same_new (o := .tup [V.str "true"]) hq
          have s34 := s3.trans s4
          obtain ⟨e1, e2⟩ := fin 0 c.enc (.tuple [.str "true"]) (.ref q) _ (hh2.kh s34) (hh2.same s34) (.tup (.inl (.inl upd_same)) (.cons (.str _) .nil)) rfl (.tup fun d m => by rw [List.mem_singleton.mp m]; exact .str (by decide +kernel) _) rfl (Bool.not_eq_true _ ▸ z1)
          exact ⟨_, rfl, o, _, 0, 0, rfl, rfl, e1, rfl, e2⟩
      refine ⟨_, rfl, by show 2 ≤ sizeLine; decide, fun p hp => ?_⟩
      have s3 := same_new (o := .tup [V.int 1, V.int 2]) hp
      refine ⟨p, [V.int 1, V.int 2], rfl, .inr (.inl (.inl upd_same)), rfl, rfl, _, rfl, ?_⟩
      have hn : n = 1 ∨ n = 2 ∨ n = 3 ∨ n = 4 ∨ n = 5 ∨ n = 6 ∨ n = 7 := by
        have : n ≠ 0 := fun e => z (by rw [e]; exact decide_eq_true rfl)
        omega
      have s3' := s3
      have hl3 := s3 _ _ hl2
      have hh3 := hh2.same s3
      have d2' := dp_same s3 _ _ d2
      have d3' := dp_same s3 _ _ d3
      have d4' := dp_same s3 _ _ d4
      generalize upd H2 p (.tup [V.int 1, V.int 2]) = H3 at *
      rcases hn with rfl | rfl | hn
      · refine iteT ⟨_, rfl, _, rfl, l, _, _, _, rfl, rfl, .inl (.inl hl3), atI_nat (j := 1) rfl, by show 1 ≤ sizeLine; decide, fun q hq => ?_⟩
        obtain ⟨a, us, rfl, ha, hu⟩ := dp_tup d2'
        have s4 := same_new (o := .tup [V.int 1]) hq
        have lu := DpAll.len hu
        rw [List.length_map] at lu
        refine cat_any (sqt_same s4 ha) (.inl (.inl upd_same)) (Nat.le_trans (show us.length + 1 ≤ 1000 by omega) (by decide)) fun t H5 s5 ht => ?_
        have s34 := (s3.trans s4).trans s5
        obtain ⟨e1, e2⟩ := fin 1 (wsT ws) (.tuple (ws.map W.enc ++ [.int 1])) (.ref t) _ (hh2.kh s34) (hh2.same s34) (.tup ht (DpAll.app (dps_same (s4.trans s5) _ _ hu) (.cons (.int _) .nil))) (flat_more (flat_ws ws) rfl) (lay_more (n := 8) (fun d m => by obtain ⟨x, mx, rfl⟩ := List.mem_map.mp m; exact (lay_W (ow x mx)).mono (by decide)) (.int _ _)) rfl (more_ne _ _ _)
        exact ⟨_, rfl, _, rfl, o, _, 1, 1, rfl, rfl, e1, rfl, e2⟩
      · refine iteT ⟨_, rfl, _, rfl, l, _, _, _, rfl, rfl, .inl (.inl hl3), atI_nat (j := 2) rfl, by show 1 ≤ sizeLine; decide, fun q hq => ?_⟩
        obtain ⟨a, us, rfl, ha, hu⟩ := dp_tup d3'
        have s4 := same_new (o := .tup [V.int 1]) hq
        have lu := DpAll.len hu
        rw [List.length_map] at lu
        refine cat_any (sqt_same s4 ha) (.inl (.inl upd_same)) (Nat.le_trans (show us.length + 1 ≤ 1000 by omega) (by decide)) fun t H5 s5 ht => ?_
        have s34 := (s3.trans s4).trans s5
        obtain ⟨e1, e2⟩ := fin 2 (intsT fs) (.tuple (fs.map PyData.int ++ [.int 1])) (.ref t) _ (hh2.kh s34) (hh2.same s34) (.tup ht (DpAll.app (dps_same (s4.trans s5) _ _ hu) (.cons (.int _) .nil))) (flat_more (flat_fs fs) rfl) (lay_more (n := 8) (fun d m => by obtain ⟨x, mx, rfl⟩ := List.mem_map.mp m; exact .int x 8) (.int _ _)) rfl (more_ne _ _ _)
        exact ⟨_, rfl, _, rfl, o, _, 2, 2, rfl, rfl, e1, rfl, e2⟩
      · rcases hn with rfl | rfl | rfl | rfl | rfl
        · refine iteF ⟨_, rfl, rfl, _, rfl, ?_⟩
          refine iteT ⟨_, rfl, l, _, _, _, rfl, rfl, .inl (.inl hl3), atI_nat (j := 3) rfl, by show 1 ≤ sizeLine; decide, fun q1 hq1 => ⟨by show 2 ≤ sizeLine; decide, fun q2 hq2 => ⟨by show 1 ≤ sizeLine; decide, fun q hq => ?_⟩⟩⟩
          obtain ⟨a, us, rfl, ha, hu⟩ := dp_tup d4'
          have s41 := same_new (o := .tup [V.str "mark"]) hq1
          have s42 := same_new (o := .tup [V.int 99, V.ref q1]) hq2
          have s43 := same_new (o := .tup [V.ref q2]) hq
          have s4 := (s41.trans s42).trans s43
          have lu := DpAll.len hu
          have tq1 := (s42.trans s43) _ _ (upd_same (H := H3) (o := .tup [V.str "mark"]))
          have tq2 := s43 _ _ (upd_same (H := upd H3 q1 (.tup [V.str "mark"])) (o := .tup [V.int 99, V.ref q1]))
          refine cat_any (sqt_same s4 ha) (.inl (.inl upd_same)) (Nat.le_trans (show us.length + 1 ≤ 1000 by omega) (by decide)) fun t H5 s5 ht => ?_
          have s34 := (s3.trans s4).trans s5
          obtain ⟨e1, e2⟩ := fin 3 (.tuple ts) (.tuple (ts ++ [.tuple [.int 99, .tuple [.str "mark"]]])) (.ref t) _ (hh2.kh s34) (hh2.same s34) (.tup ht (DpAll.app (dps_same (s4.trans s5) _ _ hu) (.cons (.tup (.inl (.inl (s5 _ _ tq2))) (.cons (.int _) (.cons (.tup (.inl (.inl (s5 _ _ tq1))) (.cons (.str _) .nil)) .nil))) .nil))) (flat_more ft rfl) (lay_more (n := 8) ot (.tup fun d m => by
            rcases List.mem_cons.mp m with rfl | m
            · exact .int _ _
            · rw [List.mem_singleton.mp m]
              exact .tup fun d m => by rw [List.mem_singleton.mp m]; exact .str (by decide +kernel) _)) rfl (more_ne _ _ _)
          exact ⟨_, rfl, o, _, 3, 3, rfl, rfl, e1, rfl, e2⟩
        · refine iteF ⟨_, rfl, rfl, _, rfl, ?_⟩
          refine iteF ⟨_, rfl, _, rfl, l, _, _, _, rfl, rfl, .inl (.inl hl3), atI_nat (j := 4) rfl, _, _, dp_int d5, rfl, _, rfl, _, _, rfl, rfl, ⟨by decide, by decide, by decide⟩, h, cc, _, rfl, hh3, by decide, by decide, fun v H5 va vb k5 hh5 => ?_⟩
          obtain ⟨e1, e2⟩ := fin 4 (.int b1) (.int (b1 + 1 + v)) (.int (b1 + 1 + v)) _ ((hh2.kh s3').trans k5) hh5 (.int _) rfl (.int _ _) rfl (int_ne (by omega))
          exact ⟨_, _, rfl, rfl, _, rfl, _, rfl, o, _, 4, 4, rfl, rfl, e1, rfl, e2⟩
        · refine iteF ⟨_, rfl, rfl, _, rfl, ?_⟩
          refine iteF ⟨_, rfl, _, rfl, l, _, _, _, rfl, rfl, .inl (.inl hl3), atI_nat (j := 5) rfl, _, _, dp_int d6, rfl, _, rfl, _, _, rfl, rfl, ⟨by decide, by decide, by decide⟩, h, cc, _, rfl, hh3, by decide, by decide, fun v H5 va vb k5 hh5 => ?_⟩
          obtain ⟨e1, e2⟩ := fin 5 (.int b2) (.int (b2 + 1 + v)) (.int (b2 + 1 + v)) _ ((hh2.kh s3').trans k5) hh5 (.int _) rfl (.int _ _) rfl (int_ne (by omega))
          exact ⟨_, _, rfl, rfl, _, rfl, _, rfl, o, _, 5, 5, rfl, rfl, e1, rfl, e2⟩
        · refine iteF ⟨_, rfl, rfl, _, rfl, ?_⟩
          refine iteF ⟨_, rfl, _, rfl, l, _, _, _, rfl, rfl, .inl (.inl hl3), atI_nat (j := 6) rfl, _, _, dp_int d7, rfl, _, rfl, _, _, rfl, rfl, ⟨by decide, by decide, by decide⟩, h, cc, _, rfl, hh3, by decide, by decide, fun v H5 va vb k5 hh5 => ?_⟩
          obtain ⟨e1, e2⟩ := fin 6 (.int b3) (.int (b3 + 1 + v)) (.int (b3 + 1 + v)) _ ((hh2.kh s3').trans k5) hh5 (.int _) rfl (.int _ _) rfl (int_ne (by omega))
          exact ⟨_, _, rfl, rfl, _, rfl, _, rfl, o, _, 6, 6, rfl, rfl, e1, rfl, e2⟩
        · refine iteF ⟨_, rfl, rfl, _, rfl, ?_⟩
          refine iteF ⟨_, rfl, _, rfl, l, _, _, _, rfl, rfl, .inl (.inl hl3), atI_nat (j := 7) rfl, _, _, dp_int d8, rfl, _, rfl, _, _, rfl, rfl, ⟨by decide, by decide, by decide⟩, h, cc, _, rfl, hh3, by decide, by decide, fun v H5 va vb k5 hh5 => ?_⟩
          obtain ⟨e1, e2⟩ := fin 7 (.int b4) (.int (b4 + 1 + v)) (.int (b4 + 1 + v)) _ ((hh2.kh s3').trans k5) hh5 (.int _) rfl (.int _ _) rfl (int_ne (by omega))
          exact ⟨_, _, rfl, rfl, _, rfl, _, rfl, o, _, 7, 7, rfl, rfl, e1, rfl, e2⟩
    · rintro σ' H' ⟨ys, es, rfl, k', hh', ho', l8, dy, ly, e⟩
      exact ⟨_, rfl, k o ys es H' k' hh' no ho' l8 dy ly e⟩
end
end K06

namespace K06
open PySem L2 Cm
theorem TyX.same {K : PySem.W.Frag} {H H' : Hp} {v : V} {t : Value} (s : Same H H') (h : TyX K H v t) : TyX K H' v t := by
  cases h with
  | base b =>
    cases b with
    | non => exact .base .non
    | bl x => exact .base (.bl x)
    | int i => exact .base (.int i)
    | str x => exact .base (.str x)
    | flt x => exact .base (.flt x)
    | lst e => exact .base (.lst (s _ _ e))
    | frz e => exact .base (.frz (s _ _ e))
    | tup e => exact .base (.tup (s _ _ e))
    | dK e => exact .base (.dK (s _ _ e))
    | dT e => exact .base (.dT (s _ _ e))
    | ins e a b c d f => exact .base (.ins (s _ _ e) a b c d f)
  | byt b => exact .byt b
  | set e => exact .set (s _ _ e)
  | kList e c => exact .kList e c
  | kTuple e c => exact .kTuple e c
  | kDict e c => exact .kDict e c
  | fTuple e => exact .fTuple (s _ _ e)
  | fDict e => exact .fDict (s _ _ e)
theorem Vl.same {K : PySem.W.Frag} {H H' : Hp} {v : V} {b : Bool} (s : Same H H') (h : Vl K H v b) : Vl K H' v b := by
  cases h with
  | int n => exact .int n
  | oth ty k1 k2 hb k3 => exact .oth (TyX.same s ty) k1 k2 hb k3
  | nil h => exact .nil (sqt_same s h)
  | hd h ty k => exact .hd (sqt_same s h) (TyX.same s ty) k
  | one h hc => exact .one (sqt_same s h) hc
  | long h l => exact .long (sqt_same s h) l
  | nw h n => exact .nw (sqt_same s h) n
  | two h n ty k1 k2 hb => exact .two (sqt_same s h) n (fun H2 s2 => ty H2 (s.trans s2)) k1 k2 hb
  | ref h m => exact .ref (sqt_same s h) m
theorem vl_eq {K : PySem.W.Frag} {H : Hp} {v : V} {b b' : Bool} (h : Vl K H v b) (e : b = b') : Vl K H v b' := e ▸ h
theorem vl_t {K : PySem.W.Frag} {H : Hp} {n : Int} (h1 : -1000000000 ≤ n) (h2 : n ≤ 1000000000) : Vl K H (.int n) true := vl_eq (.int n) (by rw [decide_eq_true h1, decide_eq_true h2]; rfl)
theorem vl_f1 {K : PySem.W.Frag} {H : Hp} {n : Int} (h : 1000000000 < n) : Vl K H (.int n) false := vl_eq (.int n) (by rw [decide_eq_false (show ¬ n ≤ 1000000000 by omega), Bool.and_false])
theorem vl_f2 {K : PySem.W.Frag} {H : Hp} {n : Int} (h : n < -1000000000) : Vl K H (.int n) false := vl_eq (.int n) (by rw [decide_eq_false (show ¬ -1000000000 ≤ n by omega)]; rfl)
theorem vl_con {K : PySem.W.Frag} {H : Hp} {a : Addr} {c : Str} {b : Bool} (h : SqT K H a [.str c]) (hc : SeqAt.shaped (.tuple [.str c]) = true) (m : decide (c ∈ conW) = b) : Vl K H (.ref a) b := vl_eq (.one h hc) m
theorem vl_ref {K : PySem.W.Frag} {H : Hp} {a : Addr} {c : Str} {n : Int} (h : H a = some (.tup [.str c, .int n])) (m : c ∈ refW) (k : 1 ≤ n) : Vl K H (.ref a) true := vl_eq (.ref (.inl (.inl h)) m) (decide_eq_true k)
theorem vl_refF {K : PySem.W.Frag} {H : Hp} {a : Addr} {c : Str} {n : Int} (h : H a = some (.tup [.str c, .int n])) (m : c ∈ refW) (k : ¬ 1 ≤ n) : Vl K H (.ref a) false := vl_eq (.ref (.inl (.inl h)) m) (decide_eq_false k)
theorem tup_any {H : Hp} {xs : List V} {Q : VK} (h : ∀ q H', Same H H' → H' q = some (.tup xs) → Q (.ref q) H') : ∀ q, H q = none → Q (.ref q) (upd H q (.tup xs)) := fun q hq => h q _ (same_new hq) upd_same
theorem lst_any {H : Hp} {xs : List V} {Q : VK} (h : ∀ q H', Same H H' → H' q = some (.lst xs) → Q (.ref q) H') : ∀ q, H q = none → Q (.ref q) (upd H q (.lst xs)) := fun q hq => h q _ (same_new hq) upd_same
theorem dK_any {H : Hp} {Q : VK} (h : ∀ q H', Same H H' → H' q = some (.dK []) → Q (.ref q) H') : ∀ q, H q = none → Q (.ref q) (upd H q (.dK [])) := fun q hq => h q _ (same_new hq) upd_same
def spFm : Sp := fun vs H Q _ => ∃ (h c : Addr), vs = [.ref h] ∧ Hand H h c ∧ ∀ H', Kh h H H' → Hand H' h c → Q (.bl true) H'
section
variable {P : Program} {w : World} {K : PySem.W.Frag} {mg : Str → Option Value} {base : Heap}
abbrev s_l_forms : Stmt := top 30
abbrev N_l_forms : List Str := ["_law_hand_here", "_law_number", "_law_birth", "_law_good", "_law_bad", "_law_thing_here"]
theorem sc_l_forms : FnScope N_l_forms ["_law_hand_here"] (defScope s_l_forms) := ⟨rfl, rfl, rfl, by decide +kernel, rfl, by decide +kernel, by decide +kernel⟩
theorem ok_forms (U : Glb K mg) (c_l_draw : Cl P w K mg base 2 "_law_draw" spDraw) (c_p_is_value : Cl P w K mg base 2 "is_value" (spVal K)) (D : At K mg "_law_forms" s_l_forms ["_law_hand_here"]) : Cl P w K mg base 3 "_law_forms" spFm := by
  obtain ⟨⟨aT, mT, hT⟩, ⟨aF, mF, hF⟩, ⟨aN, mN, hN⟩, ⟨tk, mG⟩⟩ := U
  refine cl_of (k := 2) D sc_l_forms (fun vs H Q E h => ?_) fun f cdv A outer s H vs Q E hr h => ?_
  · obtain ⟨h, c, rfl, _⟩ := h
    rfl
  · obtain ⟨h, c, rfl, hh, k⟩ := h
    refine ⟨_, (pss_cons (ps_set (i := 1) sc_l_forms.nd rfl (Or.inl rfl) (pe_op op_sub (pe_c c_l_draw hr (by decide) (by rfl) (pa_cons (pv 0) (pa_cons (pe_op op_add (pe_op op_mul pe_int (pe_op op_pow pe_int pe_int)) pe_int) pa_nil))) (pe_op op_pow pe_int pe_int)))
      (pss_cons (ps_set (i := 2) sc_l_forms.nd rfl (Or.inl rfl) (pe_op op_add pe_int (pe_c c_l_draw hr (by decide) (by rfl) (pa_cons (pv 0) (pa_cons (pe_op op_pow pe_int pe_int) pa_nil)))))
      (pss_cons (ps_set (i := 3) sc_l_forms.nd rfl (Or.inl rfl) (pe_lst (pa_cons (pv 1) (pa_cons (pe_op op_pow pe_int pe_int) (pa_cons (pe_un un_neg (pe_op op_pow pe_int pe_int)) (pa_cons pe_int (pa_cons (pe_glob (v := .ref aT) (by rfl) mT rfl) (pa_cons (pe_glob (v := .ref aF) (by rfl) mF rfl) (pa_cons (pe_glob (v := .ref aN) (by rfl) mN rfl) (pa_cons (pe_tup (pa_cons pe_str (pa_cons (pv 2) pa_nil))) (pa_cons (pe_tup (pa_cons pe_str (pa_cons (pv 2) pa_nil))) (pa_cons (pe_tup (pa_cons pe_str (pa_cons pe_int pa_nil))) pa_nil))))))))))))
      (pss_cons (ps_set (i := 4) sc_l_forms.nd rfl (Or.inl rfl) (pe_lst (pa_cons (pe_op op_add (pe_op op_pow pe_int pe_int) (pv 2)) (pa_cons (pe_op op_sub (pe_un un_neg (pe_op op_pow pe_int pe_int)) (pv 2)) (pa_cons pe_bl (pa_cons pe_bl (pa_cons pe_non (pa_cons pe_str (pa_cons (pe_tup pa_nil) (pa_cons (pe_tup (pa_cons pe_str pa_nil)) (pa_cons (pe_tup (pa_cons pe_str (pa_cons pe_int pa_nil))) (pa_cons (pe_tup (pa_cons pe_str (pa_cons (pe_un un_neg (pv 2)) pa_nil))) pa_nil))))))))))))
      (pss_cons (ps_set (i := 4) sc_l_forms.nd rfl (Or.inl rfl) (pe_op op_cat (pv 4) (pe_lst (pa_cons (pe_tup (pa_cons pe_str (pa_cons pe_bl pa_nil))) (pa_cons (pe_tup (pa_cons pe_str (pa_cons pe_int pa_nil))) (pa_cons (pe_tup (pa_cons pe_str pa_nil)) (pa_cons (pe_tup (pa_cons pe_str (pa_cons (pv 2) (pa_cons pe_int pa_nil)))) (pa_cons (pe_lst (pa_cons (pv 2) pa_nil)) (pa_cons (pe_lst (pa_cons pe_str (pa_cons (pv 2) pa_nil))) (pa_cons (pe_tup (pa_cons pe_str (pa_cons (pv 2) pa_nil))) pa_nil))))))))))
      (pss_cons (ps_set (i := 4) sc_l_forms.nd rfl (Or.inl rfl) (pe_op op_cat (pv 4) (pe_lst (pa_cons (pe_tup (pa_cons pe_str (pa_cons pe_str pa_nil))) (pa_cons (pe_tup (pa_cons (pv 2) (pa_cons (pv 2) pa_nil))) (pa_cons (pe_tup (pa_cons pe_non pa_nil)) (pa_cons (pe_tup (pa_cons pe_bl pa_nil)) (pa_cons pe_dnewK (pa_cons (pe_tup (pa_cons pe_str pa_nil)) pa_nil)))))))))
      (pss_mid (ps_for PassesOwn.never rfl (pi_seq (pv 3)) (pg_name (i := 5) sc_l_forms.nd rfl (Or.inl rfl))
        (pss_one (ps_if (pt_cmpR op_isnot_bl (pe_c c_p_is_value hr (by decide) (by rfl) (pa_cons (pv 5) pa_nil)) pe_bl (nomark _))
          (pss_one (ps_ret pe_bl))
          pss_nil)))
      (pss_mid (ps_for PassesOwn.never rfl (pi_seq (pv 4)) (pg_name (i := 5) sc_l_forms.nd rfl (Or.inl rfl))
        (pss_one (ps_if (pt_cmpR op_isnot_bl (pe_c c_p_is_value hr (by decide) (by rfl) (pa_cons (pv 5) pa_nil)) pe_bl (nomark _))
          (pss_one (ps_ret pe_bl))
          pss_nil)))
      (pss_one (ps_ret (pe_and (pe_cmpR (op_eqD hr.units) (pe_glob (v := .ref aT) (by rfl) mT rfl) (pe_tup (pa_cons pe_str pa_nil)) (nomark _)) (pe_and (pe_cmpR (op_eqD hr.units) (pe_glob (v := .ref aF) (by rfl) mF rfl) (pe_tup (pa_cons pe_str pa_nil)) (nomark _)) (pe_one (pe_cmpR (op_eqD hr.units) (pe_glob (v := .ref aN) (by rfl) mN rfl) (pe_tup (pa_cons pe_str pa_nil)) (nomark _))))))))))))))), ?_⟩
    refine ⟨_, rfl, _, _, rfl, rfl, ⟨by decide, by decide, by decide⟩, _, _, rfl, rfl, .inl ⟨by decide, by decide⟩, _, _, rfl, rfl, h, c, _, rfl, hh, by decide, by decide, fun v0 H1 va vb k1 hh1 => ?_⟩
    refine ⟨_, _, rfl, rfl, ⟨by decide, by decide, by decide⟩, _, _, rfl, rfl, ?_⟩
    rw [show (10 : Int) ^ Int.toNat 9 = 1000000000 from by decide] at vb ⊢
    refine ⟨_, rfl, _, _, rfl, rfl, ⟨by decide, by decide, by decide⟩, h, c, _, rfl, hh1, by decide, by decide, fun bb H0 ba bbb k2 hh => ?_⟩
    have kk := k1.trans k2
    clear k1 k2 hh1 
    refine ⟨_, _, rfl, rfl, ?_⟩
    have ss : Same H0 H0 := Same.refl H0
    have hh0 := hh
    refine ⟨_, rfl, _, _, rfl, rfl, ⟨by decide, by decide, by decide⟩, _, _, rfl, rfl, ⟨by decide, by decide, by decide⟩, _, rfl, _, rfl, ?_⟩
    --BEGIN
    refine ⟨by show 2 ≤ sizeLine; decide, fun q1 hq1 => ?_⟩
    have s1 := same_new (o := (.tup [.str "pair", .int (1 + bb)] : HO)) hq1
    have e1 : upd H0 q1 (.tup [.str "pair", .int (1 + bb)]) q1 = some (.tup [.str "pair", .int (1 + bb)]) := upd_same
    generalize upd H0 q1 (.tup [.str "pair", .int (1 + bb)]) = H101 at *
    replace hh := hh.same s1
    replace ss := ss.trans s1
    refine ⟨_, rfl, ?_⟩
    refine ⟨by show 2 ≤ sizeLine; decide, fun q2 hq2 => ?_⟩
    have s2 := same_new (o := (.tup [.str "fun", .int (1 + bb)] : HO)) hq2
    have e2 : upd H101 q2 (.tup [.str "fun", .int (1 + bb)]) q2 = some (.tup [.str "fun", .int (1 + bb)]) := upd_same
    generalize upd H101 q2 (.tup [.str "fun", .int (1 + bb)]) = H102 at *
    replace e1 := s2 _ _ e1
    replace hh := hh.same s2
    replace ss := ss.trans s2
    refine ⟨by show 2 ≤ sizeLine; decide, fun q3 hq3 => ?_⟩
    have s3 := same_new (o := (.tup [.str "rest", .int 1] : HO)) hq3
    have e3 : upd H102 q3 (.tup [.str "rest", .int 1]) q3 = some (.tup [.str "rest", .int 1]) := upd_same
    generalize upd H102 q3 (.tup [.str "rest", .int 1]) = H103 at *
    replace e1 := s3 _ _ e1
    replace e2 := s3 _ _ e2
    replace hh := hh.same s3
    replace ss := ss.trans s3
    refine ⟨by show 10 ≤ sizeLine; decide, fun q4 hq4 => ?_⟩
    have s4 := same_new (o := (.lst [.int (v0 - 1000000000), .int (10 ^ Int.toNat 9), .int (-(10 ^ Int.toNat 9)), .int 0, .ref aT, .ref aF, .ref aN, .ref q1, .ref q2, .ref q3] : HO)) hq4
    have e4 : upd H103 q4 (.lst [.int (v0 - 1000000000), .int (10 ^ Int.toNat 9), .int (-(10 ^ Int.toNat 9)), .int 0, .ref aT, .ref aF, .ref aN, .ref q1, .ref q2, .ref q3]) q4 = some (.lst [.int (v0 - 1000000000), .int (10 ^ Int.toNat 9), .int (-(10 ^ Int.toNat 9)), .int 0, .ref aT, .ref aF, .ref aN, .ref q1, .ref q2, .ref q3]) := upd_same
    generalize upd H103 q4 (.lst [.int (v0 - 1000000000), .int (10 ^ Int.toNat 9), .int (-(10 ^ Int.toNat 9)), .int 0, .ref aT, .ref aF, .ref aN, .ref q1, .ref q2, .ref q3]) = H104 at *
    replace e1 := s4 _ _ e1
    replace e2 := s4 _ _ e2
    replace e3 := s4 _ _ e3
    replace hh := hh.same s4
    replace ss := ss.trans s4
    refine ⟨_, _, rfl, rfl, ⟨by decide, by decide, by decide⟩, _, rfl, _, _, rfl, rfl, _, _, rfl, rfl, ⟨by decide, by decide, by decide⟩, _, rfl, _, rfl, _, _, rfl, rfl, ?_⟩
    refine ⟨by show 0 ≤ sizeLine; decide, fun q5 hq5 => ?_⟩
    have s5 := same_new (o := (.tup [] : HO)) hq5
    have e5 : upd H104 q5 (.tup []) q5 = some (.tup []) := upd_same
    generalize upd H104 q5 (.tup []) = H105 at *
    replace e1 := s5 _ _ e1
    replace e2 := s5 _ _ e2
    replace e3 := s5 _ _ e3
    replace e4 := s5 _ _ e4
    replace hh := hh.same s5
    replace ss := ss.trans s5
    refine ⟨by show 1 ≤ sizeLine; decide, fun q6 hq6 => ?_⟩
    have s6 := same_new (o := (.tup [.str "pair"] : HO)) hq6
    have e6 : upd H105 q6 (.tup [.str "pair"]) q6 = some (.tup [.str "pair"]) := upd_same
    generalize upd H105 q6 (.tup [.str "pair"]) = H106 at *
    replace e1 := s6 _ _ e1
    replace e2 := s6 _ _ e2
    replace e3 := s6 _ _ e3
    replace e4 := s6 _ _ e4
    replace e5 := s6 _ _ e5
    replace hh := hh.same s6
    replace ss := ss.trans s6
    refine ⟨by show 2 ≤ sizeLine; decide, fun q7 hq7 => ?_⟩
    have s7 := same_new (o := (.tup [.str "pair", .int 0] : HO)) hq7
    have e7 : upd H106 q7 (.tup [.str "pair", .int 0]) q7 = some (.tup [.str "pair", .int 0]) := upd_same
    generalize upd H106 q7 (.tup [.str "pair", .int 0]) = H107 at *
    replace e1 := s7 _ _ e1
    replace e2 := s7 _ _ e2
    replace e3 := s7 _ _ e3
    replace e4 := s7 _ _ e4
    replace e5 := s7 _ _ e5
    replace e6 := s7 _ _ e6
    replace hh := hh.same s7
    replace ss := ss.trans s7
    refine ⟨_, rfl, _, rfl, ?_⟩
    refine ⟨by show 2 ≤ sizeLine; decide, fun q8 hq8 => ?_⟩
    have s8 := same_new (o := (.tup [.str "rest", .int (-(1 + bb))] : HO)) hq8
    have e8 : upd H107 q8 (.tup [.str "rest", .int (-(1 + bb))]) q8 = some (.tup [.str "rest", .int (-(1 + bb))]) := upd_same
    generalize upd H107 q8 (.tup [.str "rest", .int (-(1 + bb))]) = H108 at *
    replace e1 := s8 _ _ e1
    replace e2 := s8 _ _ e2
    replace e3 := s8 _ _ e3
    replace e4 := s8 _ _ e4
    replace e5 := s8 _ _ e5
    replace e6 := s8 _ _ e6
    replace e7 := s8 _ _ e7
    replace hh := hh.same s8
    replace ss := ss.trans s8
    refine ⟨by show 10 ≤ sizeLine; decide, fun q9 hq9 => ?_⟩
    have s9 := same_new (o := (.lst [.int (10 ^ Int.toNat 9 + (1 + bb)), .int (-(10 ^ Int.toNat 9) - (1 + bb)), .bl true, .bl false, .non, .str "true", .ref q5, .ref q6, .ref q7, .ref q8] : HO)) hq9
    have e9 : upd H108 q9 (.lst [.int (10 ^ Int.toNat 9 + (1 + bb)), .int (-(10 ^ Int.toNat 9) - (1 + bb)), .bl true, .bl false, .non, .str "true", .ref q5, .ref q6, .ref q7, .ref q8]) q9 = some (.lst [.int (10 ^ Int.toNat 9 + (1 + bb)), .int (-(10 ^ Int.toNat 9) - (1 + bb)), .bl true, .bl false, .non, .str "true", .ref q5, .ref q6, .ref q7, .ref q8]) := upd_same
    generalize upd H108 q9 (.lst [.int (10 ^ Int.toNat 9 + (1 + bb)), .int (-(10 ^ Int.toNat 9) - (1 + bb)), .bl true, .bl false, .non, .str "true", .ref q5, .ref q6, .ref q7, .ref q8]) = H109 at *
    replace e1 := s9 _ _ e1
    replace e2 := s9 _ _ e2
    replace e3 := s9 _ _ e3
    replace e4 := s9 _ _ e4
    replace e5 := s9 _ _ e5
    replace e6 := s9 _ _ e6
    replace e7 := s9 _ _ e7
    replace e8 := s9 _ _ e8
    replace hh := hh.same s9
    replace ss := ss.trans s9
    refine ⟨_, rfl, ?_⟩
    refine ⟨by show 2 ≤ sizeLine; decide, fun q10 hq10 => ?_⟩
    have s10 := same_new (o := (.tup [.str "fun", .bl true] : HO)) hq10
    have e10 : upd H109 q10 (.tup [.str "fun", .bl true]) q10 = some (.tup [.str "fun", .bl true]) := upd_same
    generalize upd H109 q10 (.tup [.str "fun", .bl true]) = H110 at *
    replace e1 := s10 _ _ e1
    replace e2 := s10 _ _ e2
    replace e3 := s10 _ _ e3
    replace e4 := s10 _ _ e4
    replace e5 := s10 _ _ e5
    replace e6 := s10 _ _ e6
    replace e7 := s10 _ _ e7
    replace e8 := s10 _ _ e8
    replace e9 := s10 _ _ e9
    replace hh := hh.same s10
    replace ss := ss.trans s10
    refine ⟨by show 2 ≤ sizeLine; decide, fun q11 hq11 => ?_⟩
    have s11 := same_new (o := (.tup [.str "none", .int 1] : HO)) hq11
    have e11 : upd H110 q11 (.tup [.str "none", .int 1]) q11 = some (.tup [.str "none", .int 1]) := upd_same
    generalize upd H110 q11 (.tup [.str "none", .int 1]) = H111 at *
    replace e1 := s11 _ _ e1
    replace e2 := s11 _ _ e2
    replace e3 := s11 _ _ e3
    replace e4 := s11 _ _ e4
    replace e5 := s11 _ _ e5
    replace e6 := s11 _ _ e6
    replace e7 := s11 _ _ e7
    replace e8 := s11 _ _ e8
    replace e9 := s11 _ _ e9
    replace e10 := s11 _ _ e10
    replace hh := hh.same s11
    replace ss := ss.trans s11
    refine ⟨by show 1 ≤ sizeLine; decide, fun q12 hq12 => ?_⟩
    have s12 := same_new (o := (.tup [.str "mark"] : HO)) hq12
    have e12 : upd H111 q12 (.tup [.str "mark"]) q12 = some (.tup [.str "mark"]) := upd_same
    generalize upd H111 q12 (.tup [.str "mark"]) = H112 at *
    replace e1 := s12 _ _ e1
    replace e2 := s12 _ _ e2
    replace e3 := s12 _ _ e3
    replace e4 := s12 _ _ e4
    replace e5 := s12 _ _ e5
    replace e6 := s12 _ _ e6
    replace e7 := s12 _ _ e7
    replace e8 := s12 _ _ e8
    replace e9 := s12 _ _ e9
    replace e10 := s12 _ _ e10
    replace e11 := s12 _ _ e11
    replace hh := hh.same s12
    replace ss := ss.trans s12
    refine ⟨_, rfl, ?_⟩
    refine ⟨by show 3 ≤ sizeLine; decide, fun q13 hq13 => ?_⟩
    have s13 := same_new (o := (.tup [.str "pair", .int (1 + bb), .int 1] : HO)) hq13
    have e13 : upd H112 q13 (.tup [.str "pair", .int (1 + bb), .int 1]) q13 = some (.tup [.str "pair", .int (1 + bb), .int 1]) := upd_same
    generalize upd H112 q13 (.tup [.str "pair", .int (1 + bb), .int 1]) = H113 at *
    replace e1 := s13 _ _ e1
    replace e2 := s13 _ _ e2
    replace e3 := s13 _ _ e3
    replace e4 := s13 _ _ e4
    replace e5 := s13 _ _ e5
    replace e6 := s13 _ _ e6
    replace e7 := s13 _ _ e7
    replace e8 := s13 _ _ e8
    replace e9 := s13 _ _ e9
    replace e10 := s13 _ _ e10
    replace e11 := s13 _ _ e11
    replace e12 := s13 _ _ e12
    replace hh := hh.same s13
    replace ss := ss.trans s13
    refine ⟨_, rfl, ?_⟩
    refine ⟨by show 1 ≤ sizeLine; decide, fun q14 hq14 => ?_⟩
    have s14 := same_new (o := (.lst [.int (1 + bb)] : HO)) hq14
    have e14 : upd H113 q14 (.lst [.int (1 + bb)]) q14 = some (.lst [.int (1 + bb)]) := upd_same
    generalize upd H113 q14 (.lst [.int (1 + bb)]) = H114 at *
    replace e1 := s14 _ _ e1
    replace e2 := s14 _ _ e2
    replace e3 := s14 _ _ e3
    replace e4 := s14 _ _ e4
    replace e5 := s14 _ _ e5
    replace e6 := s14 _ _ e6
    replace e7 := s14 _ _ e7
    replace e8 := s14 _ _ e8
    replace e9 := s14 _ _ e9
    replace e10 := s14 _ _ e10
    replace e11 := s14 _ _ e11
    replace e12 := s14 _ _ e12
    replace e13 := s14 _ _ e13
    replace hh := hh.same s14
    replace ss := ss.trans s14
    refine ⟨_, rfl, ?_⟩
    refine ⟨by show 2 ≤ sizeLine; decide, fun q15 hq15 => ?_⟩
    have s15 := same_new (o := (.lst [.str "pair", .int (1 + bb)] : HO)) hq15
    have e15 : upd H114 q15 (.lst [.str "pair", .int (1 + bb)]) q15 = some (.lst [.str "pair", .int (1 + bb)]) := upd_same
    generalize upd H114 q15 (.lst [.str "pair", .int (1 + bb)]) = H115 at *
    replace e1 := s15 _ _ e1
    replace e2 := s15 _ _ e2
    replace e3 := s15 _ _ e3
    replace e4 := s15 _ _ e4
    replace e5 := s15 _ _ e5
    replace e6 := s15 _ _ e6
    replace e7 := s15 _ _ e7
    replace e8 := s15 _ _ e8
    replace e9 := s15 _ _ e9
    replace e10 := s15 _ _ e10
    replace e11 := s15 _ _ e11
    replace e12 := s15 _ _ e12
    replace e13 := s15 _ _ e13
    replace e14 := s15 _ _ e14
    replace hh := hh.same s15
    replace ss := ss.trans s15
    refine ⟨_, rfl, ?_⟩
    refine ⟨by show 2 ≤ sizeLine; decide, fun q16 hq16 => ?_⟩
    have s16 := same_new (o := (.tup [.str "keep", .int (1 + bb)] : HO)) hq16
    have e16 : upd H115 q16 (.tup [.str "keep", .int (1 + bb)]) q16 = some (.tup [.str "keep", .int (1 + bb)]) := upd_same
    generalize upd H115 q16 (.tup [.str "keep", .int (1 + bb)]) = H116 at *
    replace e1 := s16 _ _ e1
    replace e2 := s16 _ _ e2
    replace e3 := s16 _ _ e3
    replace e4 := s16 _ _ e4
    replace e5 := s16 _ _ e5
    replace e6 := s16 _ _ e6
    replace e7 := s16 _ _ e7
    replace e8 := s16 _ _ e8
    replace e9 := s16 _ _ e9
    replace e10 := s16 _ _ e10
    replace e11 := s16 _ _ e11
    replace e12 := s16 _ _ e12
    replace e13 := s16 _ _ e13
    replace e14 := s16 _ _ e14
    replace e15 := s16 _ _ e15
    replace hh := hh.same s16
    replace ss := ss.trans s16
    refine ⟨by show 7 ≤ sizeLine; decide, fun q17 hq17 => ?_⟩
    have s17 := same_new (o := (.lst [.ref q10, .ref q11, .ref q12, .ref q13, .ref q14, .ref q15, .ref q16] : HO)) hq17
    have e17 : upd H116 q17 (.lst [.ref q10, .ref q11, .ref q12, .ref q13, .ref q14, .ref q15, .ref q16]) q17 = some (.lst [.ref q10, .ref q11, .ref q12, .ref q13, .ref q14, .ref q15, .ref q16]) := upd_same
    generalize upd H116 q17 (.lst [.ref q10, .ref q11, .ref q12, .ref q13, .ref q14, .ref q15, .ref q16]) = H117 at *
    replace e1 := s17 _ _ e1
    replace e2 := s17 _ _ e2
    replace e3 := s17 _ _ e3
    replace e4 := s17 _ _ e4
    replace e5 := s17 _ _ e5
    replace e6 := s17 _ _ e6
    replace e7 := s17 _ _ e7
    replace e8 := s17 _ _ e8
    replace e9 := s17 _ _ e9
    replace e10 := s17 _ _ e10
    replace e11 := s17 _ _ e11
    replace e12 := s17 _ _ e12
    replace e13 := s17 _ _ e13
    replace e14 := s17 _ _ e14
    replace e15 := s17 _ _ e15
    replace e16 := s17 _ _ e16
    replace hh := hh.same s17
    replace ss := ss.trans s17
    refine ⟨q9, q17, _, _, rfl, rfl, e9, e17, by show 10 + 7 ≤ sizeLine; decide, fun q18 hq18 => ?_⟩
    have s18 := same_new (o := (.lst ([.int (10 ^ Int.toNat 9 + (1 + bb)), .int (-(10 ^ Int.toNat 9) - (1 + bb)), .bl true, .bl false, .non, .str "true", .ref q5, .ref q6, .ref q7, .ref q8] ++ [.ref q10, .ref q11, .ref q12, .ref q13, .ref q14, .ref q15, .ref q16]) : HO)) hq18
    have e18 : upd H117 q18 (.lst ([.int (10 ^ Int.toNat 9 + (1 + bb)), .int (-(10 ^ Int.toNat 9) - (1 + bb)), .bl true, .bl false, .non, .str "true", .ref q5, .ref q6, .ref q7, .ref q8] ++ [.ref q10, .ref q11, .ref q12, .ref q13, .ref q14, .ref q15, .ref q16])) q18 = some (.lst ([.int (10 ^ Int.toNat 9 + (1 + bb)), .int (-(10 ^ Int.toNat 9) - (1 + bb)), .bl true, .bl false, .non, .str "true", .ref q5, .ref q6, .ref q7, .ref q8] ++ [.ref q10, .ref q11, .ref q12, .ref q13, .ref q14, .ref q15, .ref q16])) := upd_same
    generalize upd H117 q18 (.lst ([.int (10 ^ Int.toNat 9 + (1 + bb)), .int (-(10 ^ Int.toNat 9) - (1 + bb)), .bl true, .bl false, .non, .str "true", .ref q5, .ref q6, .ref q7, .ref q8] ++ [.ref q10, .ref q11, .ref q12, .ref q13, .ref q14, .ref q15, .ref q16])) = H118 at *
    replace e1 := s18 _ _ e1
    replace e2 := s18 _ _ e2
    replace e3 := s18 _ _ e3
    replace e4 := s18 _ _ e4
    replace e5 := s18 _ _ e5
    replace e6 := s18 _ _ e6
    replace e7 := s18 _ _ e7
    replace e8 := s18 _ _ e8
    replace e9 := s18 _ _ e9
    replace e10 := s18 _ _ e10
    replace e11 := s18 _ _ e11
    replace e12 := s18 _ _ e12
    replace e13 := s18 _ _ e13
    replace e14 := s18 _ _ e14
    replace e15 := s18 _ _ e15
    replace e16 := s18 _ _ e16
    replace e17 := s18 _ _ e17
    replace hh := hh.same s18
    replace ss := ss.trans s18
    refine ⟨_, rfl, ?_⟩
    refine ⟨by show 2 ≤ sizeLine; decide, fun q19 hq19 => ?_⟩
    have s19 := same_new (o := (.tup [.str "pair", .str "1"] : HO)) hq19
    have e19 : upd H118 q19 (.tup [.str "pair", .str "1"]) q19 = some (.tup [.str "pair", .str "1"]) := upd_same
    generalize upd H118 q19 (.tup [.str "pair", .str "1"]) = H119 at *
    replace e1 := s19 _ _ e1
    replace e2 := s19 _ _ e2
    replace e3 := s19 _ _ e3
    replace e4 := s19 _ _ e4
    replace e5 := s19 _ _ e5
    replace e6 := s19 _ _ e6
    replace e7 := s19 _ _ e7
    replace e8 := s19 _ _ e8
    replace e9 := s19 _ _ e9
    replace e10 := s19 _ _ e10
    replace e11 := s19 _ _ e11
    replace e12 := s19 _ _ e12
    replace e13 := s19 _ _ e13
    replace e14 := s19 _ _ e14
    replace e15 := s19 _ _ e15
    replace e16 := s19 _ _ e16
    replace e17 := s19 _ _ e17
    replace e18 := s19 _ _ e18
    replace hh := hh.same s19
    replace ss := ss.trans s19
    refine ⟨_, rfl, _, rfl, ?_⟩
    refine ⟨by show 2 ≤ sizeLine; decide, fun q20 hq20 => ?_⟩
    have s20 := same_new (o := (.tup [.int (1 + bb), .int (1 + bb)] : HO)) hq20
    have e20 : upd H119 q20 (.tup [.int (1 + bb), .int (1 + bb)]) q20 = some (.tup [.int (1 + bb), .int (1 + bb)]) := upd_same
    generalize upd H119 q20 (.tup [.int (1 + bb), .int (1 + bb)]) = H120 at *
    replace e1 := s20 _ _ e1
    replace e2 := s20 _ _ e2
    replace e3 := s20 _ _ e3
    replace e4 := s20 _ _ e4
    replace e5 := s20 _ _ e5
    replace e6 := s20 _ _ e6
    replace e7 := s20 _ _ e7
    replace e8 := s20 _ _ e8
    replace e9 := s20 _ _ e9
    replace e10 := s20 _ _ e10
    replace e11 := s20 _ _ e11
    replace e12 := s20 _ _ e12
    replace e13 := s20 _ _ e13
    replace e14 := s20 _ _ e14
    replace e15 := s20 _ _ e15
    replace e16 := s20 _ _ e16
    replace e17 := s20 _ _ e17
    replace e18 := s20 _ _ e18
    replace e19 := s20 _ _ e19
    replace hh := hh.same s20
    replace ss := ss.trans s20
    refine ⟨by show 1 ≤ sizeLine; decide, fun q21 hq21 => ?_⟩
    have s21 := same_new (o := (.tup [.non] : HO)) hq21
    have e21 : upd H120 q21 (.tup [.non]) q21 = some (.tup [.non]) := upd_same
    generalize upd H120 q21 (.tup [.non]) = H121 at *
    replace e1 := s21 _ _ e1
    replace e2 := s21 _ _ e2
    replace e3 := s21 _ _ e3
    replace e4 := s21 _ _ e4
    replace e5 := s21 _ _ e5
    replace e6 := s21 _ _ e6
    replace e7 := s21 _ _ e7
    replace e8 := s21 _ _ e8
    replace e9 := s21 _ _ e9
    replace e10 := s21 _ _ e10
    replace e11 := s21 _ _ e11
    replace e12 := s21 _ _ e12
    replace e13 := s21 _ _ e13
    replace e14 := s21 _ _ e14
    replace e15 := s21 _ _ e15
    replace e16 := s21 _ _ e16
    replace e17 := s21 _ _ e17
    replace e18 := s21 _ _ e18
    replace e19 := s21 _ _ e19
    replace e20 := s21 _ _ e20
    replace hh := hh.same s21
    replace ss := ss.trans s21
    refine ⟨by show 1 ≤ sizeLine; decide, fun q22 hq22 => ?_⟩
    have s22 := same_new (o := (.tup [.bl true] : HO)) hq22
    have e22 : upd H121 q22 (.tup [.bl true]) q22 = some (.tup [.bl true]) := upd_same
    generalize upd H121 q22 (.tup [.bl true]) = H122 at *
    replace e1 := s22 _ _ e1
    replace e2 := s22 _ _ e2
    replace e3 := s22 _ _ e3
    replace e4 := s22 _ _ e4
    replace e5 := s22 _ _ e5
    replace e6 := s22 _ _ e6
    replace e7 := s22 _ _ e7
    replace e8 := s22 _ _ e8
    replace e9 := s22 _ _ e9
    replace e10 := s22 _ _ e10
    replace e11 := s22 _ _ e11
    replace e12 := s22 _ _ e12
    replace e13 := s22 _ _ e13
    replace e14 := s22 _ _ e14
    replace e15 := s22 _ _ e15
    replace e16 := s22 _ _ e16
    replace e17 := s22 _ _ e17
    replace e18 := s22 _ _ e18
    replace e19 := s22 _ _ e19
    replace e20 := s22 _ _ e20
    replace e21 := s22 _ _ e21
    replace hh := hh.same s22
    replace ss := ss.trans s22
    refine fun q23 hq23 => ?_
    have s23 := same_new (o := (.dK [] : HO)) hq23
    have e23 : upd H122 q23 (.dK []) q23 = some (.dK []) := upd_same
    generalize upd H122 q23 (.dK []) = H123 at *
    replace e1 := s23 _ _ e1
    replace e2 := s23 _ _ e2
    replace e3 := s23 _ _ e3
    replace e4 := s23 _ _ e4
    replace e5 := s23 _ _ e5
    replace e6 := s23 _ _ e6
    replace e7 := s23 _ _ e7
    replace e8 := s23 _ _ e8
    replace e9 := s23 _ _ e9
    replace e10 := s23 _ _ e10
    replace e11 := s23 _ _ e11
    replace e12 := s23 _ _ e12
    replace e13 := s23 _ _ e13
    replace e14 := s23 _ _ e14
    replace e15 := s23 _ _ e15
    replace e16 := s23 _ _ e16
    replace e17 := s23 _ _ e17
    replace e18 := s23 _ _ e18
    replace e19 := s23 _ _ e19
    replace e20 := s23 _ _ e20
    replace e21 := s23 _ _ e21
    replace e22 := s23 _ _ e22
    replace hh := hh.same s23
    replace ss := ss.trans s23
    refine ⟨by show 1 ≤ sizeLine; decide, fun q24 hq24 => ?_⟩
    have s24 := same_new (o := (.tup [.str "truth"] : HO)) hq24
    have e24 : upd H123 q24 (.tup [.str "truth"]) q24 = some (.tup [.str "truth"]) := upd_same
    generalize upd H123 q24 (.tup [.str "truth"]) = H124 at *
    replace e1 := s24 _ _ e1
    replace e2 := s24 _ _ e2
    replace e3 := s24 _ _ e3
    replace e4 := s24 _ _ e4
    replace e5 := s24 _ _ e5
    replace e6 := s24 _ _ e6
    replace e7 := s24 _ _ e7
    replace e8 := s24 _ _ e8
    replace e9 := s24 _ _ e9
    replace e10 := s24 _ _ e10
    replace e11 := s24 _ _ e11
    replace e12 := s24 _ _ e12
    replace e13 := s24 _ _ e13
    replace e14 := s24 _ _ e14
    replace e15 := s24 _ _ e15
    replace e16 := s24 _ _ e16
    replace e17 := s24 _ _ e17
    replace e18 := s24 _ _ e18
    replace e19 := s24 _ _ e19
    replace e20 := s24 _ _ e20
    replace e21 := s24 _ _ e21
    replace e22 := s24 _ _ e22
    replace e23 := s24 _ _ e23
    replace hh := hh.same s24
    replace ss := ss.trans s24
    refine ⟨by show 6 ≤ sizeLine; decide, fun q25 hq25 => ?_⟩
    have s25 := same_new (o := (.lst [.ref q19, .ref q20, .ref q21, .ref q22, .ref q23, .ref q24] : HO)) hq25
    have e25 : upd H124 q25 (.lst [.ref q19, .ref q20, .ref q21, .ref q22, .ref q23, .ref q24]) q25 = some (.lst [.ref q19, .ref q20, .ref q21, .ref q22, .ref q23, .ref q24]) := upd_same
    generalize upd H124 q25 (.lst [.ref q19, .ref q20, .ref q21, .ref q22, .ref q23, .ref q24]) = H125 at *
    replace e1 := s25 _ _ e1
    replace e2 := s25 _ _ e2
    replace e3 := s25 _ _ e3
    replace e4 := s25 _ _ e4
    replace e5 := s25 _ _ e5
    replace e6 := s25 _ _ e6
    replace e7 := s25 _ _ e7
    replace e8 := s25 _ _ e8
    replace e9 := s25 _ _ e9
    replace e10 := s25 _ _ e10
    replace e11 := s25 _ _ e11
    replace e12 := s25 _ _ e12
    replace e13 := s25 _ _ e13
    replace e14 := s25 _ _ e14
    replace e15 := s25 _ _ e15
    replace e16 := s25 _ _ e16
    replace e17 := s25 _ _ e17
    replace e18 := s25 _ _ e18
    replace e19 := s25 _ _ e19
    replace e20 := s25 _ _ e20
    replace e21 := s25 _ _ e21
    replace e22 := s25 _ _ e22
    replace e23 := s25 _ _ e23
    replace e24 := s25 _ _ e24
    replace hh := hh.same s25
    replace ss := ss.trans s25
    refine ⟨q18, q25, _, _, rfl, rfl, e18, e25, by show 17 + 6 ≤ sizeLine; decide, fun q26 hq26 => ?_⟩
    have s26 := same_new (o := (.lst (([.int (10 ^ Int.toNat 9 + (1 + bb)), .int (-(10 ^ Int.toNat 9) - (1 + bb)), .bl true, .bl false, .non, .str "true", .ref q5, .ref q6, .ref q7, .ref q8] ++ [.ref q10, .ref q11, .ref q12, .ref q13, .ref q14, .ref q15, .ref q16]) ++ [.ref q19, .ref q20, .ref q21, .ref q22, .ref q23, .ref q24]) : HO)) hq26
    have e26 : upd H125 q26 (.lst (([.int (10 ^ Int.toNat 9 + (1 + bb)), .int (-(10 ^ Int.toNat 9) - (1 + bb)), .bl true, .bl false, .non, .str "true", .ref q5, .ref q6, .ref q7, .ref q8] ++ [.ref q10, .ref q11, .ref q12, .ref q13, .ref q14, .ref q15, .ref q16]) ++ [.ref q19, .ref q20, .ref q21, .ref q22, .ref q23, .ref q24])) q26 = some (.lst (([.int (10 ^ Int.toNat 9 + (1 + bb)), .int (-(10 ^ Int.toNat 9) - (1 + bb)), .bl true, .bl false, .non, .str "true", .ref q5, .ref q6, .ref q7, .ref q8] ++ [.ref q10, .ref q11, .ref q12, .ref q13, .ref q14, .ref q15, .ref q16]) ++ [.ref q19, .ref q20, .ref q21, .ref q22, .ref q23, .ref q24])) := upd_same
    generalize upd H125 q26 (.lst (([.int (10 ^ Int.toNat 9 + (1 + bb)), .int (-(10 ^ Int.toNat 9) - (1 + bb)), .bl true, .bl false, .non, .str "true", .ref q5, .ref q6, .ref q7, .ref q8] ++ [.ref q10, .ref q11, .ref q12, .ref q13, .ref q14, .ref q15, .ref q16]) ++ [.ref q19, .ref q20, .ref q21, .ref q22, .ref q23, .ref q24])) = H126 at *
    replace e1 := s26 _ _ e1
    replace e2 := s26 _ _ e2
    replace e3 := s26 _ _ e3
    replace e4 := s26 _ _ e4
    replace e5 := s26 _ _ e5
    replace e6 := s26 _ _ e6
    replace e7 := s26 _ _ e7
    replace e8 := s26 _ _ e8
    replace e9 := s26 _ _ e9
    replace e10 := s26 _ _ e10
    replace e11 := s26 _ _ e11
    replace e12 := s26 _ _ e12
    replace e13 := s26 _ _ e13
    replace e14 := s26 _ _ e14
    replace e15 := s26 _ _ e15
    replace e16 := s26 _ _ e16
    replace e17 := s26 _ _ e17
    replace e18 := s26 _ _ e18
    replace e19 := s26 _ _ e19
    replace e20 := s26 _ _ e20
    replace e21 := s26 _ _ e21
    replace e22 := s26 _ _ e22
    replace e23 := s26 _ _ e23
    replace e24 := s26 _ _ e24
    replace e25 := s26 _ _ e25
    replace hh := hh.same s26
    replace ss := ss.trans s26
    clear c_l_draw D
    have hg : ∀ x ∈ ([.int (v0 - 1000000000), .int (10 ^ Int.toNat 9), .int (-(10 ^ Int.toNat 9)), .int 0, .ref aT, .ref aF, .ref aN, .ref q1, .ref q2, .ref q3] : List V), Vl K H126 x true := fun x m => by
      simp only [List.mem_cons, List.not_mem_nil, or_false] at m
      rcases m with rfl | rfl | rfl | rfl | rfl | rfl | rfl | rfl | rfl | rfl
      · exact vl_t (by omega) (by omega)
      · exact vl_t (by decide) (by decide)
      · exact vl_t (by decide) (by decide)
      · exact vl_t (by decide) (by decide)
      · exact vl_con (hT _) (by decide +kernel) (by decide +kernel)
      · exact vl_con (hF _) (by decide +kernel) (by decide +kernel)
      · exact vl_con (hN _) (by decide +kernel) (by decide +kernel)
      · exact vl_ref e1 (by decide +kernel) (by omega)
      · exact vl_ref e2 (by decide +kernel) (by omega)
      · exact vl_ref e3 (by decide +kernel) (by omega)
    have hb : ∀ x ∈ (([.int (10 ^ Int.toNat 9 + (1 + bb)), .int (-(10 ^ Int.toNat 9) - (1 + bb)), .bl true, .bl false, .non, .str "true", .ref q5, .ref q6, .ref q7, .ref q8] ++ [.ref q10, .ref q11, .ref q12, .ref q13, .ref q14, .ref q15, .ref q16]) ++ [.ref q19, .ref q20, .ref q21, .ref q22, .ref q23, .ref q24] : List V), Vl K H126 x false := fun x m => by
      simp only [List.cons_append, List.nil_append, List.mem_cons, List.not_mem_nil, or_false] at m
      rcases m with rfl | rfl | rfl | rfl | rfl | rfl | rfl | rfl | rfl | rfl | rfl | rfl | rfl | rfl | rfl | rfl | rfl | rfl | rfl | rfl | rfl | rfl | rfl
      · exact vl_f1 (by rw [show (10 : Int) ^ Int.toNat 9 = 1000000000 from by decide]; omega)
      · exact vl_f2 (by rw [show (10 : Int) ^ Int.toNat 9 = 1000000000 from by decide]; omega)
      · exact .oth (.base (.bl _)) rfl rfl rfl rfl
      · exact .oth (.base (.bl _)) rfl rfl rfl rfl
      · exact .oth (.base .non) rfl rfl rfl rfl
      · exact .oth (.base (.str _)) rfl rfl rfl rfl
      · exact .nil (.inl (.inl e5))
      · exact vl_con (.inl (.inl e6)) (by decide +kernel) (by decide +kernel)
      · exact vl_refF e7 (by decide +kernel) (by omega)
      · exact vl_refF e8 (by decide +kernel) (by omega)
      · exact .two (.inl (.inl e10)) (by decide +kernel) (fun _ _ => .base (.bl _)) rfl rfl rfl
      · exact .nw (.inl (.inl e11)) (by decide +kernel)
      · exact vl_con (.inl (.inl e12)) (by decide +kernel) (by decide +kernel)
      · exact .long (.inl (.inl e13)) (by show 2 ≤ 2; decide)
      · exact .oth (.base (.lst e14)) rfl rfl rfl rfl
      · exact .oth (.base (.lst e15)) rfl rfl rfl rfl
      · exact .nw (.inl (.inl e16)) (by decide +kernel)
      · exact .two (.inl (.inl e19)) (by decide +kernel) (fun _ _ => .base (.str _)) rfl rfl rfl
      · exact .hd (.inl (.inl e20)) (.base (.int _)) rfl
      · exact .hd (.inl (.inl e21)) (.base .non) rfl
      · exact .hd (.inl (.inl e22)) (.base (.bl _)) rfl
      · exact .oth (.base (.dK e23)) rfl rfl rfl rfl
      · exact vl_con (.inl (.inl e24)) (by decide +kernel) (by decide +kernel)
    refine ⟨fun σ' H' => ∃ v5, σ' = [some (.ref h), some (.int (v0 - 1000000000)), some (.int (1 + bb)), some (.ref q4), some (.ref q26), v5] ∧ Same H126 H', ?_, ?_⟩
    · refine for_seq (Hb := H126) (a := q4) (xs := [.int (v0 - 1000000000), .int (10 ^ Int.toNat 9), .int (-(10 ^ Int.toNat 9)), .int 0, .ref aT, .ref aF, .ref aN, .ref q1, .ref q2, .ref q3]) (fun Q q => ⟨_, rfl, q⟩) (.inl (.inl (.inl e4))) (fun i σ H' => ∃ v5, σ = [some (.ref h), some (.int (v0 - 1000000000)), some (.int (1 + bb)), some (.ref q4), some (.ref q26), v5] ∧ Same H126 H') ⟨none, rfl, Same.refl _⟩ (fun i σ H' z => z.elim fun _ z => z.2) (fun i x σ H' hi z ex => ?_) (fun σ H' z => z)
      obtain ⟨v5, rfl, s⟩ := z
      refine ⟨_, rfl, x, true, rfl, ((hg x (List.mem_of_getElem? ex)).same s), fun H3 s3 => ⟨_, _, rfl, rfl, _, rfl, ?_⟩⟩
      exact iteF ⟨_, rfl, s.trans s3⟩
    rintro σ1 H5 ⟨v5, rfl, s5⟩
    refine ⟨fun σ' H' => ∃ v5, σ' = [some (.ref h), some (.int (v0 - 1000000000)), some (.int (1 + bb)), some (.ref q4), some (.ref q26), v5] ∧ Same H126 H', ?_, ?_⟩
    · refine for_seq (Hb := H5) (a := q26) (xs := ([.int (10 ^ Int.toNat 9 + (1 + bb)), .int (-(10 ^ Int.toNat 9) - (1 + bb)), .bl true, .bl false, .non, .str "true", .ref q5, .ref q6, .ref q7, .ref q8] ++ [.ref q10, .ref q11, .ref q12, .ref q13, .ref q14, .ref q15, .ref q16]) ++ [.ref q19, .ref q20, .ref q21, .ref q22, .ref q23, .ref q24]) (fun Q q => ⟨_, rfl, q⟩) (.inl (.inl (.inl (s5 _ _ e26)))) (fun i σ H' => (∃ v5, σ = [some (.ref h), some (.int (v0 - 1000000000)), some (.int (1 + bb)), some (.ref q4), some (.ref q26), v5] ∧ Same H126 H') ∧ Same H5 H') ⟨⟨v5, rfl, s5⟩, Same.refl _⟩ (fun i σ H' z => z.2) (fun i x σ H' hi z ex => ?_) (fun σ H' z => z.1)
      obtain ⟨⟨v5, rfl, s⟩, s6⟩ := z
      refine ⟨_, rfl, x, false, rfl, ((hb x (List.mem_of_getElem? ex)).same s), fun H3 s3 => ⟨_, _, rfl, rfl, _, rfl, ?_⟩⟩
      exact iteF ⟨⟨_, rfl, s.trans s3⟩, s6.trans s3⟩
    rintro σ1 H5 ⟨v5, rfl, s5⟩
    have hh5 := hh.same s5
    have k5 := kk.trans (hh0.kh (ss.trans s5))
    refine ⟨by show 1 ≤ sizeLine; decide, fun ptrue hptrue => ?_⟩
    have ttrue := same_new (o := (.tup [.str "true"] : HO)) hptrue
    refine ⟨.tuple [.str "true"], .tuple [.str "true"], .tup (hT _) (.cons (.str _) .nil), .tup (.inl (.inl upd_same)) (.cons (.str _) .nil), by decide +kernel, by decide +kernel, ?_⟩
    refine ⟨_, rfl, ?_⟩
    rw [show PyData.eqv (.tuple [.str "true"]) (.tuple [.str "true"]) = true from by decide +kernel]
    refine iteT ?_
    generalize upd H5 ptrue (.tup [.str "true"]) = H6 at *
    refine ⟨by show 1 ≤ sizeLine; decide, fun pfalse hpfalse => ?_⟩
    have tfalse := same_new (o := (.tup [.str "false"] : HO)) hpfalse
    refine ⟨.tuple [.str "false"], .tuple [.str "false"], .tup (hF _) (.cons (.str _) .nil), .tup (.inl (.inl upd_same)) (.cons (.str _) .nil), by decide +kernel, by decide +kernel, ?_⟩
    refine ⟨_, rfl, ?_⟩
    rw [show PyData.eqv (.tuple [.str "false"]) (.tuple [.str "false"]) = true from by decide +kernel]
    refine iteT ?_
    generalize upd H6 pfalse (.tup [.str "false"]) = H7 at *
    refine ⟨by show 1 ≤ sizeLine; decide, fun pnone hpnone => ?_⟩
    have tnone := same_new (o := (.tup [.str "none"] : HO)) hpnone
    refine ⟨.tuple [.str "none"], .tuple [.str "none"], .tup (hN _) (.cons (.str _) .nil), .tup (.inl (.inl upd_same)) (.cons (.str _) .nil), by decide +kernel, by decide +kernel, ?_⟩
    rw [show PyData.eqv (.tuple [.str "none"]) (.tuple [.str "none"]) = true from by decide +kernel]
    generalize upd H7 pnone (.tup [.str "none"]) = H8 at *
    have t := (ttrue.trans tfalse).trans tnone
    exact k _ (k5.trans (hh5.kh t)) (hh5.same t)
end
end K06

namespace K06
open PySem L2 Cm PyProof.Rows LamX NdefX
theorem sqt_mv {K : PySem.W.Frag} {H H' : Hp} {a : Addr} {xs : List V} (h1 : H a = some (.tup xs) → H' a = some (.tup xs)) (h2 : ∀ o, H a = some (.frz o (.tup xs)) → H' a = some (.frz o (.tup xs))) (q : SqT K H a xs) : SqT K H' a xs := by
  rcases q with (h | ⟨o, h⟩) | h
  · exact .inl (.inl (h1 h))
  · exact .inl (.inr ⟨o, h2 o h⟩)
  · exact .inr h
theorem sqt_ext {K : PySem.W.Frag} {H H' : Hp} {a : Addr} {xs : List V} (e : ExtN H H') (q : SqT K H a xs) : SqT K H' a xs :=
  sqt_mv (fun h => e _ _ h fun ps z => by cases z) (fun o h => e _ _ h fun ps z => by cases z) q
def spReached (K : PySem.W.Frag) (T : List (Addr × Str)) : Sp := fun vs H Q _ => ∃ (cv : V) (hd fr d : Addr) (c : W) (ws : List W) (us : List V) (fs : List Int) (es : List (Int × Tn)) (kvs : List (Key × V)), vs = [cv, .ref hd, .ref fr, .ref d] ∧ Dp K H cv c.enc ∧ SqT K H hd us ∧ DpAll K H us (ws.map W.enc) ∧ ws.length ≤ 100 ∧
  SqT K H fr (fs.map V.int) ∧ fs.length ≤ 100 ∧ Ths K d es kvs H ∧ Wld es (c.refs ++ ws.flatMap W.refs ++ fs) ∧ Tabs T H ∧
  ∀ (r : Addr) (S : List Int) (H' : Hp), ExtN H H' → Tabs T H' → S.Pairwise (· < ·) → (∀ b, b ∈ S ↔ Reach es (c.refs ++ ws.flatMap W.refs ++ fs) b) → Dp K H' (.ref r) (.tuple (S.map fun b => .tuple [.int b, tOf es b])) → Q (.ref r) H'
section
variable {P : Program} {w : World} {K : PySem.W.Frag} {mg : Str → Option Value} {base : Heap}
theorem lam_free : ∀ y ∈ lamS.names, y.2 = .free → (defScope s_p_reached).names.lookup y.1 = some .cell ∨ (defScope s_p_reached).names.lookup y.1 = some .free := ndef_free (fr := frL) (by decide +kernel)
theorem lam_fr : ∀ y ∈ frL, (y, NameKind.free) ∈ lamS.names := ndef_fr (sc := defScope s_p_reached) (by decide +kernel)
theorem kcell {n : Nat} (y : Str) (c : Addr) (e : (cellsFrom n (defScope s_p_reached).names []).lookup y = some c) : (defScope s_p_reached).names.lookup y = some .cell := by
  have kc : ((defScope s_p_reached).names.all fun p => !decide (p.2 = .cell) || decide ((defScope s_p_reached).names.lookup p.1 = some .cell)) = true := by decide +kernel
  rcases cellsFrom_kind e with m | z
  · have := List.all_eq_true.mp kc _ m
    simpa using this
  · cases z
theorem cells_frz {n : Nat} {val : Str → Option V} {H1 H2 : Hp} {ws : List V} (fz : Frz (cellsFrom n (defScope s_p_reached).names []) val H1 H2) (hw : ws.length = 1) (hv : ∀ (i : Nat) (y : Str), frL[i]? = some y → ∃ v, ws[i]? = some v ∧ val y = some v) :
    CellsF (cloFrom (cellsFrom n (defScope s_p_reached).names []) lamS.names []) frL ws H2 := by
  have hc : ∀ y, (defScope s_p_reached).names.lookup y = some .cell → ∃ c, (cellsFrom n (defScope s_p_reached).names []).lookup y = some c := fun y e => cell_has e
  have hfree : ∀ y ∈ lamS.names, y.2 = .free → ∃ c, (cellsFrom n (defScope s_p_reached).names []).lookup y.1 = some c := fun y hy e => by
    rcases lam_free y hy e with z | z
    · exact hc _ z
    · exact absurd (PySem.mem_of_lookup z) (by
        intro m
        have : ∀ p ∈ (defScope s_p_reached).names, p.2 ≠ .free := by decide +kernel
        exact this _ m rfl)
  refine ⟨hw, fun x y c e1 e2 => fz.inj x y c (clo_cm hfree e1) (clo_cm hfree e2), fun y c e => ?_, fun i y e => ?_⟩
  · rcases cloFrom_mem (PySem.mem_of_lookup e) with hm | ⟨h1, _⟩
    · cases hm
    · exact sc_lam.free _ h1 rfl
  · have m := lam_fr y (List.mem_of_getElem? e)
    obtain ⟨c, ec⟩ := hfree _ m rfl
    obtain ⟨v, e1, e2⟩ := hv i y e
    obtain ⟨o, eo⟩ := fz.cell y c v ec e2
    exact ⟨c, v, o, clo_has hfree m ec, e1, eo⟩
theorem ok_reached {c Pt f : Addr} {oc : Value} {od : Option Addr} {kV doc pm ct : Value} {an : Option Addr} {osl : Array (Option Value)}
    (lk : K.lookup f = some ⟨oc, od, .func (PySem.W.fnOf "reached" "reached" (defArgs s_p_reached) (defBody s_p_reached) (defScope s_p_reached) .none kV doc pm an (.ref c) ct), osl⟩) (hcd : PySem.W.codeIn K (.ref c) "reached" = true) (TB : TabB base mg c Pt) (c_p_reached_by : Cl P w K mg base 3 "reached_by" (spBy K)) :
    FnOk P w K mg base CX0 4 f (PySem.W.fnOf "reached" "reached" (defArgs s_p_reached) (defBody s_p_reached) (defScope s_p_reached) .none kV doc pm an (.ref c) ct) ["callee", "handed", "frames", "things"] (spReached K [(Pt, qL)]) := by
  refine fn_of (k := 3) lk hcd sc_p_reached (fun vs H Q E h => ?_) fun A outer s H vs Q E hr h => ?_
  · obtain ⟨cv, hd, fr, d, cc, ws, us, fs, es, kvs, rfl, _⟩ := h
    rfl
  · obtain ⟨cv, hd, fr, d, cw, ws, us, fs, es, kvs, rfl, hcv, hhd, hus, hwl, hfr, hfl, th, wd, hT, k⟩ := h
    refine ⟨_, PSs.nox (pss_one (ps_ret (pe_cF c_p_reached_by kcell (fun _ => rfl) rfl hr (by decide) (by rfl) (pa_cons (pv 0) (pa_cons (pv 1) (pa_cons (pv 2) (pa_cons (pe_lamV (T := [(Pt, qL)]) TB rfl List.mem_cons_self (fun p hp _ => by rw [List.mem_singleton.mp hp]; rfl) rfl lam_free) pa_nil))))))), ?_⟩
    refine ⟨_, rfl, _, rfl, _, rfl, hT, fun fL c' H1 eN T1 _ f1 c1 H2 fz => ?_⟩
    have s2 : Same H1 H2 := fun b o e => fz.keep e
    have e2 : ExtN H H2 := fun b o e n => s2 b o (eN b o e n)
    refine ⟨cv, hd, fr, fL, cw, ws, us, fs, _, c', d, es, kvs, rfl, dp_keep (fun _ _ q => sqt_ext e2 q) _ _ (flat_W cw) hcv, sqt_ext e2 hhd, dps_keep (fun _ _ q => sqt_ext e2 q) _ _ (flatDs_of _ fun x m => ?_) hus, hwl, sqt_ext e2 hfr, hfl, s2 _ _ f1, s2 _ _ c1, cells_frz fz rfl fun j y ej => ?_, ⟨e2 _ _ th.at_ fun ps z => (by cases z), th.ks, dps_keep (fun _ _ q => sqt_ext e2 q) _ _ (flatDs_of _ fun x m => ?_) th.vs⟩, wd, fun r S H' s' hS hm hr' => ?_⟩
    · obtain ⟨y, _, rfl⟩ := List.mem_map.mp m
      exact flat_W y
    · match j, ej with
      | 0, ej => cases ej; exact ⟨_, rfl, rfl⟩
    · obtain ⟨y, _, rfl⟩ := List.mem_map.mp m
      exact flat_Tn _
    · have back : ∀ {b : Addr} {o : HO}, H1 b = some o → hideH (cellsFrom (s.heap.objs.size + 1) (defScope s_p_reached).names []) H' b = some o := fun {b o} e => by
        rw [hideH_other fun y e' => by rw [fz.free y b e'] at e; cases e]
        exact s' _ _ (s2 _ _ e)
      refine k r S _ (fun b o e n => back (eN b o e n)) (fun p hp => ?_) hS hm ?_
      · obtain ⟨ps, h1, h2, h3⟩ := T1 p hp
        refine ⟨ps, back h1, h2, fun pos cv hc => ?_⟩
        obtain ⟨c0, g1, g2⟩ := h3 pos cv hc
        exact ⟨c0, g1, back g2⟩
      · have told : ∀ y b, (cellsFrom (s.heap.objs.size + 1) (defScope s_p_reached).names []).lookup y = some b → ∃ o v, H' b = some (.frz o (CellO b v)) := fun y b e => by
          have ky := kcell y b e
          have ey : y = "things" := by
            have m := PySem.mem_of_lookup ky
            have : ∀ p ∈ (defScope s_p_reached).names, p.2 = .cell → p.1 = "things" := by decide +kernel
            exact this _ m rfl
          subst ey
          obtain ⟨o, eo⟩ := fz.cell "things" b (.ref d) e rfl
          exact ⟨o, _, s' _ _ eo⟩
        refine dp_keep (fun a xs q => sqt_mv (fun e => ?_) (fun o e => ?_) q) _ _ ?_ hr'
        · rw [hideH_other fun y e' => by
            obtain ⟨o, v, z⟩ := told y a e'
            rw [e] at z
            cases z]
          exact e
        · rw [hideH_other fun y e' => by
            obtain ⟨o', v, z⟩ := told y a e'
            rw [e] at z
            unfold CellO at z
            cases z]
          exact e
        · refine flatDs_of _ fun x m => ?_
          obtain ⟨b, _, rfl⟩ := List.mem_map.mp m
          simp [flatD, flatDs, flat_tOf]
end
end K06

namespace Cm
open PySem L2 PySem.Spec PyProof.Rows
/-! dicts of objects: != of two that hold the very same ones; made of pairs; the end of a law that asks repr and has one table -/
def sameV (v : V) : Prop := flatB v = true ∨ ∃ a, v = .ref a
theorem hits_same {κ : Type} [DecidableEq κ] {A : Around} {s : Shared} {ls : List (κ × V)} {vb : List (κ × Value)} (rb : KV ls vb) {ks : List (κ × V)} {va : List (κ × Value)} (ra : KV ks va) :
    (∀ p ∈ ks, valV ls p.1 = some p.2 ∧ sameV p.2) → PySem.W.KeqHits A s vb va true := by
  unfold KV at ra
  induction ra with
  | nil => exact fun _ => .nil
  | @cons p q ps qs r t ih =>
    intro all
    have rest := ih fun x m => all x (List.mem_cons_of_mem _ m)
    obtain ⟨h1, h2⟩ := r
    obtain ⟨e, f⟩ := all p List.mem_cons_self
    have ro := rb.val p.1
    rw [e] at ro
    obtain ⟨y, hy, ry⟩ := ro.some_of
    obtain ⟨k0, v0⟩ := q
    rw [show p.1 = k0 from h1] at hy
    have eq : SeqAt.EqAt A s v0 y true := by
      rcases f with f | ⟨a, f⟩
      · exact eqAt_same h2 ry f
      · rw [f] at h2 ry
        cases (show v0 = Value.ref a from h2)
        cases (show y = Value.ref a from ry)
        exact SeqAt.EqAt.same _
    exact PySem.W.KeqHits.hit (e := true) (b := true) hy eq rest
section
variable {X : Cx}
def rNeDS : R2 := fun x y H Q => ∃ a b ks ls, x = .ref a ∧ y = .ref b ∧ H a = some (.dK ks) ∧ H b = some (.dK ls) ∧ ks.length = ls.length ∧ (∀ p ∈ ks, valV ls p.1 = some p.2 ∧ sameV p.2) ∧ Q (.bl false) H
theorem op_neDS (hu : X.A.units < cLine) : OpR X (compareOp .NotEq) rNeDS := by
  intro pins s σ H x y v u Q I rx ry ⟨a, b, ks, ls, ex, ey, ea, eb, hlen, hp, q⟩
  subst ex ey
  cases (show v = Value.ref a from rx)
  cases (show u = Value.ref b from ry)
  obtain ⟨_, za, va, ra, da⟩ := I.hok a _ ea
  obtain ⟨_, zb, vb, rb, db⟩ := I.hok b _ eb
  have l1 := ra.length
  have l2 := rb.length
  refine PySem.W.keq_ne (r := true) za zb da db hu (fun _ => hits_same rb ra hp) (fin_bl I q ?_)
  have : va.length = vb.length := by omega
  simp [this]
end
theorem merge_new : ∀ {more kvs : List (Key × V)}, ((kvs ++ more).map (·.1)).Nodup → mergeK kvs more = kvs ++ more
  | [], kvs, _ => by rw [List.append_nil]; rfl
  | p :: more, kvs, n => by
    show mergeK (putK kvs p.1 p.2) more = _
    rw [putK_end fun q mq e => ?_, merge_new ?_, List.append_assoc]
    · rfl
    · rw [List.append_assoc]
      exact n
    · rw [List.map_append, List.map_cons] at n
      obtain ⟨_, _, d⟩ := List.nodup_append.mp n
      exact d q.1 (List.mem_map.mpr ⟨q, mq, rfl⟩) p.1 List.mem_cons_self e
def isPair (H : Hp) (q : Addr) (kv : Key × V) : Prop := H q = some (.tup [kV kv.1, kv.2])
theorem pr_snoc {α β : Type} {R : α → β → Prop} {x : α} {y : β} : ∀ {xs : List α} {ys : List β}, Paired R xs ys → R x y → Paired R (xs ++ [x]) (ys ++ [y])
  | _, _, .nil, r => .cons r .nil
  | _, _, .cons a t, r => .cons a (pr_snoc t r)
/-- a comprehension of pairs of known objects -/
theorem lc_pairs {J : It} {n : Nat} {G : Hp → Prop} {Y : Nat → Hp → V → Hp → Prop} (wk : Walk J n G Y) {g : TG} {tt : TT} {te : TE} {vs : List Nat} {σ : L2.St} {H1 : Hp} {D : Addr} {Qd : Hp → Prop} (ps : List (Key × V)) (hl : ps.length = n)
    (hD : H1 D = Option.none) (hn : n ≤ 100000) (hG : ∀ H, Same H1 H → G H)
    (hs : ∀ i x H H' kv, ps[i]? = some kv → Same H1 H → Y i H x H' → ∀ (Q1 : VK) (Q0 : Hp → Prop), (∀ q H4, Same H H4 → H4 q = some (.tup [kV kv.1, kv.2]) → Q1 (.ref q) H4) →
      g x (wipe σ vs) H' fun σ2 H2 => wipe σ2 vs = wipe σ vs ∧ tt σ2 H2 fun b H3 => if b = true then te σ2 H3 Q1 else Q0 H3)
    (hd : ∀ H acc, Same H1 H → H D = some (.lst (acc.map V.ref)) → Paired (isPair H) acc ps → Qd H) :
    ∃ W : Nat → Nat → Hp → Prop, (∃ m, W 0 m (upd H1 D (.lst []))) ∧ ∀ i m H, W i m H →
      (J.stop i H ∧ Qd H) ∨ (J.go i H ∧ ∃ Nx : Hp → Prop, (∀ H', Nx H' → ∃ m', m' < m ∧ W (i + 1) m' H') ∧ ∀ x H', J.yld i H x H' → g x (wipe σ vs) H' fun σ2 H2 => wipe σ2 vs = wipe σ vs ∧ tt σ2 H2 fun b H3 =>
        if b = true then te σ2 H3 fun y H4 => ∃ acc, H4 D = some (.lst acc) ∧ acc.length < sizeLine ∧ Nx (upd H4 D (.lst (acc ++ [y]))) else Nx H3) := by
  refine lc_it wk (fun i H => ∃ acc : List Addr, Same H1 H ∧ H D = some (.lst (acc.map V.ref)) ∧ Paired (isPair H) acc (ps.take i)) ⟨[], same_new hD, upd_same, .nil⟩ (fun i H _ z => ?_) ?_ ?_
  · obtain ⟨_, s, _⟩ := z
    exact hG H s
  · rintro i x H H' hi ⟨acc, s, hacc, ha⟩ y
    have hi' : i < ps.length := by omega
    refine hs i x H H' ps[i] (List.getElem?_eq_getElem hi') s y _ _ fun q H4 s4 eq => ?_
    have la := Paired.length ha
    rw [List.length_take] at la
    have hD4 := s4 _ _ hacc
    have nq : ∀ {b : Addr} {xs : List V}, H4 b = some (.tup xs) → b ≠ D := fun e z => by rw [z, hD4] at e; cases e
    have kp : ∀ {b : Addr} {kv : Key × V} {zs : List V}, H4 b = some (.tup [kV kv.1, kv.2]) → isPair (upd H4 D (.lst zs)) b kv := fun e => by
      unfold isPair
      rw [upd_ne (nq e)]
      exact e
    refine ⟨_, hD4, ?_, acc ++ [q], same_put (s.trans s4) hD, ?_, ?_⟩
    · rw [List.length_map, la]
      exact Nat.lt_of_lt_of_le (show min i ps.length < 100001 by omega) (by decide)
    · rw [upd_same, List.map_append]
      rfl
    · rw [← List.take_append_getElem hi']
      exact pr_snoc (Paired.mapP ha fun b kv e => kp (s4 _ _ e)) (kp eq)
  · rintro H ⟨acc, s, hacc, ha⟩
    rw [← hl, List.take_length] at ha
    exact hd H acc s hacc ha
/-- the script and one table may be told -/
def OneTab (a Pt : Addr) (H : Hp) : Prop := H Pt = some (.tbl #[]) ∧ ∀ b, b ≠ Pt → H b ≠ none → b = a ∧ ∃ o xs, H b = some (.frz o (.lst xs))
theorem law_goesT {P : Program} {w : World} {K : PySem.W.Frag} {mg mb : Str → Option Value} {k : Nat} {fa a c Pt : Addr} {fd : FuncData} {x : Str} {sp : Sp} {s₁ : Shared} {vs : List Value} {ns : List Int}
    (KX : K.In s₁.heap) (hns : s₁.heap.Ns mainGlobals mg) (hb : s₁.heap.Ns builtinsNs mb) (hbb : ∀ x : Str, x ≠ "__name__" → mb x = bootBuiltins x) (hlim : s₁.heap.NoLimit) (hg : s₁.gens = #[])
    (hPt : s₁.heap.get? Pt = some { cls := .none, data := .fields #[] }) (kPt : K.lookup Pt = none) (hc : PySem.W.CodeHd s₁.heap c Pt)
    (hbm : ∃ (m : Addr) (mo : Obj), mg "__builtins__" = some (.ref m) ∧ m ≠ builtinsNs ∧ s₁.heap.get? m = some mo ∧ mo.cls = .type "module" ∧ mo.dict = some builtinsNs ∧ mo.data = .plain)
    (ha : s₁.heap.get? a = some { cls := .type "list", data := .seq vs.toArray }) (hi : IntsAre vs ns) (hl : ns.length ≤ sizeLine) (hr : Room k callerA)
    (F : ∀ b : Heap, K.In b → b.Ns mainGlobals mg → LamX.TabB b mg c Pt → LawAt P w K mg b k fa fd [x] sp)
    (hbind : ∀ (s : Shared) (u : Value), BindsTo s fd ⟨[u], []⟩ [(x, u)])
    (hsp : ∀ H : Hp, H Pt = some (.tbl #[]) → SqL K H a (ns.map V.int) → sp [.ref a] H (fun v _ => v = .bl true) fun _ _ _ => False) :
    codeAny (model P w) callerA (.call (.ref fa) ⟨[.ref a], []⟩)
      (fun r s' => r = .ok (.ret (.bool true)) ∧ OldK s₁.heap s'.heap ∧ s'.os = s₁.os ∧ AllBare s'.gens) s₁ := by
  have rv := vals_ints hi
  have naP : a ≠ Pt := fun z => by
    rw [← z, ha] at hPt
    have q := congrArg Obj.data (Option.some.inj hPt)
    cases q
  have main : ∀ H : Hp, OneTab a Pt H → SqL K H a (ns.map V.int) → HOk P w H s₁.heap → (H a ≠ none → K.lookup a = none) →
      codeAny (model P w) callerA (.call (.ref fa) ⟨[.ref a], []⟩)
        (fun r s' => r = .ok (.ret (.bool true)) ∧ OldK s₁.heap s'.heap ∧ s'.os = s₁.os ∧ AllBare s'.gens) s₁ := by
    intro H hO hS hok hA
    obtain ⟨hT, hO⟩ := hO
    -- what is neither a list nor the table is not told
    have free : ∀ {b : Addr} {o : Obj}, s₁.heap.get? b = some o → (∀ us n, o.data ≠ .seq us n) → o.data ≠ .fields #[] → H b = none := fun {b o} e n1 n2 => by
      by_cases q : H b = none
      · exact q
      by_cases z : b = Pt
      · rw [z, hPt] at e
        cases e
        exact absurd rfl n2
      · obtain ⟨z', _⟩ := hO b z q
        rw [z', ha] at e
        cases e
        exact absurd rfl (n1 _ _)
    have put : ∀ {b : Addr} {o : Obj}, s₁.heap.get? b = some o → (∀ us n, o.data ≠ .seq us n) → o.data ≠ .fields #[] → (hidT s₁.heap H).get? b = some o := fun e n1 n2 => hidT_get e (free e n1 n2)
    have nsOf : ∀ {b : Addr} {m : Str → Option Value}, s₁.heap.Ns b m → (hidT s₁.heap H).Ns b m := fun z => by
      obtain ⟨o, es, ep, e, d, r⟩ := z
      exact ⟨o, es, ep, put e (fun us n q => by rw [d] at q; cases q) (fun q => by rw [d] at q; cases q), d, r⟩
    have kin : K.In (hidT s₁.heap H) := fun b o e => hidT_get (KX b o e) (by
      by_cases q : H b = none
      · exact q
      by_cases z : b = Pt
      · rw [z, kPt] at e; cases e
      · obtain ⟨z', _⟩ := hO b z q
        subst z'
        rw [hA q] at e; cases e)
    obtain ⟨mc, l1, l2⟩ := hlim
    have tabB : LamX.TabB (hidT s₁.heap H) mg c Pt := by
      refine ⟨?_, ?_, fun z => ?_⟩
      · obtain ⟨o, us, file, tf, flags, tg, inF, text, tt, e1, r1, r2, r3, rest⟩ := hc
        refine ⟨o, us, file, tf, flags, tg, inF, text, tt, put e1 (fun us n q => by rw [r2] at q; cases q) (fun q => ?_), r1, r2, r3, rest⟩
        rw [r2] at q
        cases q
        simp at r3
      · obtain ⟨m, mo, m1, m2, m3, m4, m5, m6⟩ := hbm
        have g1 : m ≠ mainGlobals := fun q => by
          obtain ⟨o, es, ep, e, d, _⟩ := hns
          rw [q, e] at m3
          cases m3
          rw [d] at m6
          cases m6
        have g2 : m ≠ Pt := fun q => by
          rw [q, hPt] at m3
          cases m3
          cases m6
        exact ⟨m, mo, m1, m2, g1, g2, put m3 (fun us n q => by rw [m6] at q; cases q) (fun q => by rw [m6] at q; cases q), m4, m5, m6⟩
      · obtain ⟨o, es, ep, e, d, _⟩ := hns
        rw [z, hPt] at e
        cases e
        cases d
    have e0 : Env0 P w K mg (hidT s₁.heap H) callerA [] s₁ H :=
      { frames := rfl, mod := ⟨kin, nsOf hns, ⟨mb, nsOf hb, hbb⟩, ⟨mc, nsOf l1, l2⟩⟩, bs := fun b o e => of_hidT e, bsz := Nat.le_of_eq (hidT_size _ _),
        funs := trivial, frf := fun b z => absurd (show b ∈ ([] : List Addr) from z) (by simp), hok := hok, bare := .of_eq hg }
    have run := F _ kin (nsOf hns) tabB callerA [] s₁ H ⟨[.ref a], []⟩ [.ref a] [.ref a] _ _ rfl hr e0 (hbind s₁ (.ref a)) (.cons rfl .nil) (hsp H hT hS)
    refine codeAny_mono run fun r s' h => ?_
    rcases r with e | fl
    · exact False.elim h
    cases fl with
    | next => exact False.elim h
    | brk => exact False.elim h
    | cont => exact False.elim h
    | ret u =>
      obtain ⟨v, H', os, bare, un, hok', r', q⟩ := h
      have q' : v = .bl true := q
      subst q'
      have eu : u = Value.bool true := r'
      subst eu
      have stay : ∀ b o, b ≠ Pt → s₁.heap.get? b = some o → s'.heap.get? b = some o := fun b o nb e => by
        by_cases q : H b = none
        · exact un.keep b o e q (fun z => absurd (show b ∈ ([] : List Addr) from z) (by simp)) (by simp)
        · obtain ⟨_, ob, xs, z⟩ := hO b nb q
          have e1 := (hok b _ z).1
          have e2 := (hok' b _ (un.frzs b ob _ z)).1
          rw [e] at e1
          cases e1
          exact e2
      obtain ⟨more, zm⟩ := un.tbls Pt #[] hT
      have grown := hok' Pt _ zm
      refine ⟨rfl, ⟨fun b o e => ?_, fun b o e => ?_⟩, os, bare⟩
      · by_cases hbP : b = Pt
        · subst hbP
          rw [hPt] at e
          cases e
          exact .inr (.inl ⟨(hc.tab hPt).isCodeTable, rfl, #[], more, rfl, by rw [Array.empty_append] at grown ⊢; exact grown⟩)
        · exact .inl (stay b o hbP e)
      · by_cases hbP : b = Pt
        · rw [hbP]
          exact ⟨_, grown⟩
        · exact ⟨o, stay b o hbP e⟩
  let tabH : Hp := fun b => if b = Pt then some (.tbl #[]) else none
  have tabOk : ∀ (H0 : Hp) b u, tabH b = some u → ObjOk P w H0 s₁.heap b u := fun H0 b u z => by
    by_cases q : b = Pt
    · have z' := (if_pos q).symm.trans z
      cases z'
      rw [q]
      exact hPt
    · have z' := (if_neg q).symm.trans z
      cases z'
  cases hk : K.lookup a with
  | some o =>
    have e := KX a o hk
    rw [ha] at e
    cases e
    refine main tabH ⟨if_pos rfl, fun b nb q => absurd (if_neg nb) q⟩ ?_ (tabOk _) (fun z => absurd (if_neg naP) z)
    exact .inr ⟨_, vs.toArray, _, hk, rfl, rfl, rfl, by rw [List.size_toArray, hi.length]; exact hl, by simpa using rv⟩
  | none =>
    let tellH : Hp := fun b => if b = a then some (.frz { cls := .type "list", data := .seq vs.toArray } (.lst (ns.map V.int))) else tabH b
    refine main tellH ⟨(if_neg naP.symm).trans (if_pos rfl), fun b nb q => ?_⟩ (.inl (.inr ⟨_, if_pos rfl⟩)) (fun b u z => ?_) fun _ => hk
    · by_cases z : b = a
      · exact ⟨z, _, _, if_pos z⟩
      · exact absurd ((if_neg z).trans (if_neg nb)) q
    · by_cases q : b = a
      · have z' := (if_pos q).symm.trans z
        cases z'
        rw [q]
        exact ⟨ha, by rw [List.length_map]; exact hl, vs, _, rv, ha⟩
      · exact tabOk _ b u ((if_neg q).symm.trans z)
theorem walk_lawT {l : PySem.W.OpenLaw} {n k : Nat} {q : Program} {loose : List Str} {XP : (Str → Option Value) → Heap → Prop} {YP : World → Heap → Prop} {d : DefRec} {K : Params → PySem.W.Frag} {x : Str}
    (hn : l.most = some n) (hn2 : n ≤ sizeLine) (hdf : d.params.defaults = []) (hr : Room k callerA)
    (hY : ∀ (w : World) (h : Heap), YP w h → (K w.params).In h)
    (F : ∀ (w : World) (mg : Str → Option Value) (fa : Addr) (h : Heap), YP w h → (K w.params).In h → h.Ns mainGlobals mg → mg d.name = some (.ref fa) →
      ∃ (c Pt : Addr) (fd : FuncData) (sp : Sp), h.get? Pt = some { cls := .none, data := .fields #[] } ∧ (K w.params).lookup Pt = none ∧ PySem.W.CodeHd h c Pt ∧ (∀ (s : Shared) (u : Value), BindsTo s fd ⟨[u], []⟩ [(x, u)]) ∧
        (∀ (H : Hp) (a : Addr) (ns : List Int), ns.length ≤ n → H Pt = some (.tbl #[]) → SqL (K w.params) H a (ns.map V.int) → sp [.ref a] H (fun v _ => v = .bl true) fun _ _ _ => False) ∧
        ∀ b : Heap, (K w.params).In b → b.Ns mainGlobals mg → LamX.TabB b mg c Pt → LawAt l.prog w (K w.params) mg b k fa fd [x] sp) :
    PySem.W.WalkO q loose XP YP l.row.toRowW d [] (fun f vs => PySem.call f vs) := by
  refine Att.attach_callB hn hdf fun w t0 t1 m1 m2 fa ob p1 p2 p3 a us ns GG YY h1 h2 h3 h4 h5 h6 h7 _ h9 => ?_
  have kin := hY w _ YY
  obtain ⟨c, Pt, fd, sp, e1, e2, e3, e4, e5, e6⟩ := F w m1 fa _ YY kin GG.T.g h4
  exact law_goesT kin GG.T.g GG.T.b GG.T.builtins GG.T.nolimit h9 e1 e2 e3 GG.T.bmain h5 h6 (Nat.le_trans h7 hn2) hr e6 e4 fun H hT hS => e5 H a ns h7 hT hS
end Cm

namespace K06
open PySem L2 Cm PyProof.Rows LamX NdefX
theorem tabs_kh6 {T : List (Addr × Str)} {h : Addr} {H H' : Hp} {xs : List V} (t : Tabs T H) (hh : H h = some (.lst xs)) (k : Kh h H H') : Tabs T H' := fun p hp => by
  obtain ⟨ps, h1, h2, h3⟩ := t p hp
  refine ⟨ps, k.st _ _ (fun z => by rw [z, hh] at h1; cases h1) h1, h2, fun pos cv hc => ?_⟩
  obtain ⟨c, e1, e2⟩ := h3 pos cv hc
  exact ⟨c, e1, k.st _ _ (fun z => by rw [z, hh] at e2; unfold CodeO at e2; cases e2) e2⟩
/-- the data of the things, all drawn over births that are there -/
structure Es (n : Nat) (es : List (Int × Tn)) : Prop where
  bs : es.map (·.1) = births n
  le : n ≤ 40
  gd : ∀ e ∈ es, e.2.good (births n)
/-- what the law holds while it goes through its turns -/
structure Zw (K : PySem.W.Frag) (T : List (Addr × Str)) (h cc kd d : Addr) (ks : List (Int × Str)) (es : List (Int × Tn)) (kvs : List (Key × V)) (H : Hp) : Prop where
  hh : Hand H h cc
  kk : KdAt K H h kd ks
  th : Ths K d es kvs H
  tb : Tabs T H
theorem flat_es (es : List (Int × Tn)) : flatDs (es.map fun e => e.2.enc) = true := flatDs_of _ fun x m => by
  obtain ⟨y, _, rfl⟩ := List.mem_map.mp m
  exact flat_Tn _
theorem Ths.same {K : PySem.W.Frag} {d : Addr} {es : List (Int × Tn)} {kvs : List (Key × V)} {H H' : Hp} (t : Ths K d es kvs H) (s : Same H H') : Ths K d es kvs H' := ⟨s _ _ t.at_, t.ks, dps_same s _ _ t.vs⟩
theorem Ths.kh {K : PySem.W.Frag} {d h : Addr} {es : List (Int × Tn)} {kvs : List (Key × V)} {H H' : Hp} {xs : List V} (t : Ths K d es kvs H) (hh : H h = some (.lst xs)) (k : Kh h H H') : Ths K d es kvs H' :=
  ⟨k.st _ _ (fun z => by have := t.at_; rw [z, hh] at this; cases this) t.at_, t.ks, dps_keep (fun _ _ q => k.tup q) _ _ (flat_es es) t.vs⟩
theorem Ths.ext {K : PySem.W.Frag} {d : Addr} {es : List (Int × Tn)} {kvs : List (Key × V)} {H H' : Hp} (t : Ths K d es kvs H) (e : ExtN H H') : Ths K d es kvs H' :=
  ⟨e _ _ t.at_ (fun ps z => by cases z), t.ks, dps_keep (fun _ _ q => sqt_ext e q) _ _ (flat_es es) t.vs⟩
theorem Zw.same {K : PySem.W.Frag} {T : List (Addr × Str)} {h cc kd d : Addr} {ks : List (Int × Str)} {es : List (Int × Tn)} {kvs : List (Key × V)} {H H' : Hp} (z : Zw K T h cc kd d ks es kvs H) (s : Same H H') : Zw K T h cc kd d ks es kvs H' :=
  ⟨z.hh.same s, z.kk.same s, z.th.same s, z.tb.ext s⟩
theorem Zw.kh {K : PySem.W.Frag} {T : List (Addr × Str)} {h cc kd d : Addr} {ks : List (Int × Str)} {es : List (Int × Tn)} {kvs : List (Key × V)} {H H' : Hp} (z : Zw K T h cc kd d ks es kvs H) (k : Kh h H H') (hh : Hand H' h cc) : Zw K T h cc kd d ks es kvs H' := by
  obtain ⟨xs, e⟩ := z.hh.lst
  exact ⟨hh, z.kk.kh k, z.th.kh e k, tabs_kh6 z.tb e k⟩
theorem Zw.ext {K : PySem.W.Frag} {T : List (Addr × Str)} {h cc kd d : Addr} {ks : List (Int × Str)} {es : List (Int × Tn)} {kvs : List (Key × V)} {H H' : Hp} (z : Zw K T h cc kd d ks es kvs H) (e : ExtN H H') (tb : Tabs T H') : Zw K T h cc kd d ks es kvs H' := by
  have no : ∀ {xs : List V} (ps : Array Value), (HO.lst xs) ≠ .tbl ps := fun ps z => by cases z
  obtain ⟨cells, i, b, t, e1, e2, r⟩ := z.hh
  obtain ⟨us, ek, ak⟩ := z.kk.ex
  exact ⟨⟨cells, i, b, t, e _ _ e1 no, e _ _ e2 no, r⟩, ⟨z.kk.ne, us, e _ _ ek no, dps_keep (fun _ _ q => sqt_ext e q) _ _ (flat_kD ks) ak⟩, z.th.ext e, tb⟩
theorem good_nm {bs : List Int} {t : Tn} (g : t.good bs) : ∀ b ∈ t.nm, b ∈ bs := by
  have ws : ∀ {vs : List W}, (∀ x ∈ vs, x.good bs) → ∀ b ∈ vs.flatMap W.refs, b ∈ bs := fun h b m => by
    obtain ⟨x, mx, mb⟩ := List.mem_flatMap.mp m
    exact (h x mx).on b mb
  have two : ∀ {a c : W}, a.good bs → c.good bs → ∀ x ∈ [a, c], x.good bs := fun g1 g2 x m => by
    rcases List.mem_cons.mp m with rfl | m
    · exact g1
    · rw [List.mem_singleton.mp m]; exact g2
  intro b m
  cases t with
  | pair x y => exact ws (two g.1 g.2) b m
  | wind x y => exact ws (two g.1 g.2) b m
  | fn n vs => exact ws g.2.2.2 b m
  | wait n vs => exact ws g.2.2.2 b m
  | keep fs => exact g.2 b (by simpa [Tn.nm, Tn.row, Tn.ws] using m)
  | piece fs => exact g.2 b (by simpa [Tn.nm, Tn.row, Tn.ws] using m)
  | once fs u => exact g.2.1 b (by simpa [Tn.nm, Tn.row, Tn.ws] using m)
  | pass x => rw [List.mem_singleton.mp m]; exact g
  | mark => cases m
  | give r x =>
    rcases List.mem_append.mp (show b ∈ (Tn.give r x).row.getD [] ++ _ from m) with m | m
    · cases r with
      | to fs k => exact g.1.2.1 b m
      | on fs => exact g.1.2 b m
      | off => cases m
      | out => cases m
    · exact ws (vs := [x]) (fun y my => by rw [List.mem_singleton.mp my]; exact g.2) b m
  | call r x vs =>
    rcases List.mem_append.mp (show b ∈ (Tn.call r x vs).row.getD [] ++ _ from m) with m | m
    · cases r with
      | to fs k => exact g.1.2.1 b m
      | on fs => exact g.1.2 b m
      | off => cases m
      | out => cases m
    · exact ws (vs := x :: vs) (fun y my => by
        rcases List.mem_cons.mp my with rfl | my
        · exact g.2.1
        · exact g.2.2.2 y my) b m
theorem good_sz {bs : List Int} {t : Tn} (g : t.good bs) : t.sz := by
  cases t with
  | pair x y => exact ⟨(fun fs e => by cases e), by show 2 ≤ 20; decide⟩
  | wind x y => exact ⟨(fun fs e => by cases e), by show 2 ≤ 20; decide⟩
  | fn n vs => exact ⟨(fun fs e => by cases e), by have := g.2.2.1; show vs.length ≤ 20; omega⟩
  | wait n vs => exact ⟨(fun fs e => by cases e), by have := g.2.2.1; show vs.length ≤ 20; omega⟩
  | keep fs => exact ⟨(fun fs' e => by cases e; have := g.1; omega), Nat.zero_le _⟩
  | piece fs => exact ⟨(fun fs' e => by cases e; have := g.1; omega), Nat.zero_le _⟩
  | once fs u => exact ⟨(fun fs' e => by cases e; have := g.1; omega), Nat.zero_le _⟩
  | pass x => exact ⟨(fun fs e => by cases e), Nat.zero_le _⟩
  | mark => exact ⟨(fun fs e => by cases e), Nat.zero_le _⟩
  | give r x =>
    refine ⟨fun fs e => ?_, by show 1 ≤ 20; decide⟩
    cases r with
    | to fs k => cases e; have := g.1.1; omega
    | on fs => cases e; have := g.1.1; omega
    | off => cases e
    | out => cases e
  | call r x vs =>
    refine ⟨fun fs e => ?_, by have := g.2.2.1; show vs.length + 1 ≤ 20; omega⟩
    cases r with
    | to fs k => cases e; have := g.1.1; omega
    | on fs => cases e; have := g.1.1; omega
    | off => cases e
    | out => cases e
theorem births_asc (n : Nat) : (births n).Pairwise (· < ·) := by
  unfold births
  rw [List.pairwise_map]
  exact List.pairwise_lt_range.imp fun h => by omega
theorem births_nd (n : Nat) : (births n).Nodup := (births_asc n).imp fun h => by omega
theorem Es.wld {n : Nat} {es es' : List (Int × Tn)} {ro : List Int} (z : Es n es) (hp : es'.Perm es) (hr : ∀ b ∈ ro, b ∈ births n) : Wld es' ro := by
  have pm := hp.map (·.1)
  rw [z.bs] at pm
  refine ⟨pm.nodup_iff.mpr (births_nd n), ?_, fun e m => good_sz (z.gd e (hp.mem_iff.mp m)), fun e m b mb => pm.mem_iff.mpr (good_nm (z.gd e (hp.mem_iff.mp m)) b mb), fun b m => pm.mem_iff.mpr (hr b m)⟩
  have := pm.length_eq
  rw [List.length_map, births_len] at this
  have := z.le
  omega
end K06

namespace K06
open PySem L2 Cm
/-! what repr is asked of is small -/
abbrev allW : List Str := ["pair", "fun", "rest", "true", "false", "none", "to", "on", "off", "out", "wind", "wait", "keep", "piece", "once", "pass", "way", "give", "call", "mark"]
theorem smS : ∀ x ∈ allW, Sm 0 64 (.str x) := by
  intro x m
  simp only [List.mem_cons, List.not_mem_nil, or_false] at m
  rcases m with rfl | rfl | rfl | rfl | rfl | rfl | rfl | rfl | rfl | rfl | rfl | rfl | rfl | rfl | rfl | rfl | rfl | rfl | rfl | rfl <;> exact ⟨by decide +kernel, by decide +kernel, by decide +kernel⟩
theorem sm1 {D W : Nat} {a : PyData} (h : Sm D W a) : ∀ d ∈ [a], Sm D W d := fun d m => by rw [List.mem_singleton.mp m]; exact h
theorem sm2 {D W : Nat} {a b : PyData} (h : Sm D W a) (h2 : Sm D W b) : ∀ d ∈ [a, b], Sm D W d := fun d m => by
  rcases List.mem_cons.mp m with rfl | m
  · exact h
  · exact sm1 h2 d m
theorem sm3 {D W : Nat} {a b c : PyData} (h : Sm D W a) (h2 : Sm D W b) (h3 : Sm D W c) : ∀ d ∈ [a, b, c], Sm D W d := fun d m => by
  rcases List.mem_cons.mp m with rfl | m
  · exact h
  · exact sm2 h2 h3 d m
theorem sm_W {w : W} (o : w.ok) : Sm 1 132 w.enc := by
  cases w with
  | int i =>
    have : i.natAbs ≤ 1000000000 := o
    exact (sm_int (show i.natAbs < 10 ^ 12 by omega)).mono (by decide) (by decide)
  | con c =>
    have o' : c ∈ conW := o
    exact (Sm.tuple (m := 1) (sm1 (smS c (by simp only [List.mem_cons, List.not_mem_nil, or_false] at o' ⊢; rcases o' with rfl | rfl | rfl <;> simp))) (by simp)).mono (by decide) (by decide)
  | ref x b =>
    have o' : x ∈ refW := o.1
    have h1 := o.2.1
    have h2 := o.2.2
    exact (Sm.tuple (m := 2) (sm2 (smS x (by simp only [List.mem_cons, List.not_mem_nil, or_false] at o' ⊢; rcases o' with rfl | rfl | rfl <;> simp)) (sm_int (show b.natAbs < 10 ^ 12 by omega))) (by simp)).mono (by decide) (by decide)
theorem sm_ws {ws : List W} (h : ∀ x ∈ ws, x.ok) (l : ws.length ≤ 10) : Sm 2 1340 (wsT ws) :=
  (Sm.tuple (m := 10) (fun d m => by obtain ⟨x, mx, rfl⟩ := List.mem_map.mp m; exact sm_W (h x mx)) (by rw [List.length_map]; exact l)).mono (by decide) (by decide)
theorem sm_fs {fs : List Int} (h : ∀ b ∈ fs, 1 ≤ b ∧ b ≤ 40) (l : fs.length ≤ 10) : Sm 1 660 (intsT fs) :=
  (Sm.tuple (m := 10) (fun d m => by obtain ⟨x, mx, rfl⟩ := List.mem_map.mp m; have := h x mx; exact sm_int (show x.natAbs < 10 ^ 12 by omega)) (by rw [List.length_map]; exact l)).mono (by decide) (by decide)
theorem wsok {bs : List Int} {ws : List W} (h : ∀ x ∈ ws, x.good bs) : ∀ x ∈ ws, x.ok := fun x m => (h x m).ok
theorem smA (x : Str) (m : x ∈ allW := by simp) : Sm 0 64 (.str x) := smS x m
theorem sm_R {bs : List Int} (hb : ∀ b ∈ bs, 1 ≤ b ∧ b ≤ 40) {r : Rd} (g : r.good bs) : Sm 2 1986 r.enc := by
  cases r with
  | to fs k =>
    have h1 := g.2.2.1
    have h2 := g.2.2.2
    exact (Sm.tuple (D := 1) (W := 660) (m := 3) (sm3 ((smA "to").mono (by decide) (by decide)) (sm_fs (fun b m => hb b (g.2.1 b m)) g.1) ((sm_int (show k.natAbs < 10 ^ 12 by omega)).mono (by decide) (by decide))) (by simp)).mono (by decide) (by decide)
  | on fs => exact (Sm.tuple (D := 1) (W := 660) (m := 3) (sm2 ((smA "on").mono (by decide) (by decide)) (sm_fs (fun b m => hb b (g.2 b m)) g.1)) (by simp)).mono (by decide) (by decide)
  | off => exact (Sm.tuple (m := 1) (sm1 (smA "off")) (by decide)).mono (by decide) (by decide)
  | out => exact (Sm.tuple (m := 1) (sm1 (smA "out")) (by decide)).mono (by decide) (by decide)
theorem sm_T {bs : List Int} (hb : ∀ b ∈ bs, 1 ≤ b ∧ b ≤ 40) {t : Tn} (g : t.good bs) : Sm 4 12084 t.enc := by
  have up : ∀ {x : Str}, x ∈ allW → Sm 3 4026 (.str x) := fun m => (smS _ m).mono (by decide) (by decide)
  have wu : ∀ {x : W}, x.good bs → Sm 3 4026 x.enc := fun h => (sm_W h.ok).mono (by decide) (by decide)
  have nu : ∀ {i : Int}, 0 ≤ i → i < 100 → Sm 3 4026 (.int i) := fun {i} h1 h2 => (sm_int (show i.natAbs < 10 ^ 12 by omega)).mono (by decide) (by decide)
  have ru : ∀ {fs : List Int}, (∀ b ∈ fs, b ∈ bs) → fs.length ≤ 10 → Sm 3 4026 (intsT fs) := fun h l => (sm_fs (fun b m => hb b (h b m)) l).mono (by decide) (by decide)
  have vu : ∀ {vs : List W}, (∀ x ∈ vs, x.good bs) → vs.length ≤ 10 → Sm 3 4026 (wsT vs) := fun h l => (sm_ws (wsok h) l).mono (by decide) (by decide)
  have fin : ∀ {ds : List PyData}, (∀ d ∈ ds, Sm 3 4026 d) → ds.length ≤ 3 → Sm 4 12084 (.tuple ds) := fun h l => (Sm.tuple h l).mono (by decide) (by decide)
  cases t with
  | pair x y => exact fin (sm3 (up (by simp)) (wu g.1) (wu g.2)) (by simp)
  | wind x y => exact fin (sm3 (up (by simp)) (wu g.1) (wu g.2)) (by simp)
  | fn n vs => exact fin (sm3 (up (by simp)) (nu g.1 g.2.1) (vu g.2.2.2 g.2.2.1)) (by simp)
  | wait n vs => exact fin (sm3 (up (by simp)) (nu g.1 g.2.1) (vu g.2.2.2 g.2.2.1)) (by simp)
  | keep fs => exact fin (sm2 (up (by simp)) (ru g.2 g.1)) (by simp)
  | piece fs => exact fin (sm2 (up (by simp)) (ru g.2 g.1)) (by simp)
  | once fs u => exact fin (sm3 (up (by simp)) (ru g.2.1 g.1) (nu g.2.2.1 g.2.2.2)) (by simp)
  | pass b =>
    have := hb b g
    exact fin (sm2 (up (by simp)) ((sm_int (show b.natAbs < 10 ^ 12 by omega)).mono (by decide) (by decide))) (by simp)
  | mark => exact fin (sm1 (up (by simp))) (by simp)
  | give r x =>
    exact fin (sm3 (up (by simp)) ((sm_R hb g.1).mono (by decide) (by decide)) ((Sm.tuple (D := 1) (W := 132) (m := 2) (sm2 ((smA "give").mono (by decide) (by decide)) (sm_W g.2.ok)) (by simp)).mono (by decide) (by decide))) (by simp)
  | call r x vs =>
    exact fin (sm3 (up (by simp)) ((sm_R hb g.1).mono (by decide) (by decide)) ((Sm.tuple (D := 2) (W := 1340) (m := 3) (sm3 ((smA "call").mono (by decide) (by decide)) ((sm_W g.2.1.ok).mono (by decide) (by decide)) (sm_ws (wsok g.2.2.2) g.2.2.1)) (by simp)).mono (by decide) (by decide))) (by simp)
/-- the pairs that are told -/
def toldD (es : List (Int × Tn)) (S : List Int) : List PyData := S.map fun b => .tuple [.int b, tOf es b]
theorem sm_told {n : Nat} {es : List (Int × Tn)} {S : List Int} (z : Es n es) (hs : ∀ b ∈ S, b ∈ births n) (hn : S.Nodup) : Sm 6 966960 (.tuple (toldD es S)) ∧ S.length ≤ 40 := by
  have hb : ∀ b ∈ births n, 1 ≤ b ∧ b ≤ 40 := fun b m => by
    have := births_mem.mp m
    have := z.le
    omega
  have hl : S.length ≤ 40 := by
    have := sub_len hn hs
    rw [births_len] at this
    have := z.le
    omega
  refine ⟨(Sm.tuple (D := 5) (W := 24172) (m := 40) (fun d m => ?_) (by unfold toldD; rw [List.length_map]; exact hl)).mono (by decide) (by decide), hl⟩
  obtain ⟨b, mb, rfl⟩ := List.mem_map.mp m
  have m1 := hs b mb
  have h1 := hb b m1
  rw [← z.bs] at m1
  obtain ⟨e, me, ee⟩ := List.mem_map.mp m1
  have st : Sm 4 12084 (tOf es b) := by
    unfold tOf
    cases q : es.find? (fun e => decide (e.1 = b)) with
    | none =>
      have := List.find?_eq_none.mp q e me
      simp [ee] at this
    | some e' => exact sm_T hb (z.gd e' (List.mem_of_find?_eq_some q))
  exact (Sm.tuple (D := 4) (W := 12084) (m := 2) (sm2 ((sm_int (show b.natAbs < 10 ^ 12 by omega)).mono (by decide) (by decide)) st) (by simp)).mono (by decide) (by decide)
theorem lay_T {bs : List Int} {t : Tn} (g : t.good bs) : Lay 5 t.enc := by
  have wl : ∀ {x : W}, x.good bs → Lay 4 x.enc := fun h => (lay_W h.ok).mono (by decide)
  have vl : ∀ {vs : List W}, (∀ x ∈ vs, x.good bs) → Lay 3 (wsT vs) := fun h => (lay_ws (wsok h)).mono (by decide)
  have sl : ∀ {x : Str} (n : Nat), x ∈ allW → Lay n (.str x) := fun n m => by
    refine .str ?_ n
    simp only [List.mem_cons, List.not_mem_nil, or_false] at m
    rcases m with rfl | rfl | rfl | rfl | rfl | rfl | rfl | rfl | rfl | rfl | rfl | rfl | rfl | rfl | rfl | rfl | rfl | rfl | rfl | rfl <;> decide +kernel
  have l1 : ∀ {n : Nat} {a : PyData}, Lay n a → Lay (n + 1) (.tuple [a]) := fun h => .tup fun d m => by rw [List.mem_singleton.mp m]; exact h
  have l2 : ∀ {n : Nat} {a b : PyData}, Lay n a → Lay n b → Lay (n + 1) (.tuple [a, b]) := fun h k => .tup fun d m => by
    rcases List.mem_cons.mp m with rfl | m
    · exact h
    · rw [List.mem_singleton.mp m]; exact k
  have l3 : ∀ {n : Nat} {a b c : PyData}, Lay n a → Lay n b → Lay n c → Lay (n + 1) (.tuple [a, b, c]) := fun h k j => .tup fun d m => by
    rcases List.mem_cons.mp m with rfl | m
    · exact h
    rcases List.mem_cons.mp m with rfl | m
    · exact k
    · rw [List.mem_singleton.mp m]; exact j
  have rl : ∀ {r : Rd}, Lay 3 r.enc := fun {r} => by
    cases r with
    | to fs k => exact (l3 (sl 1 (by simp)) (lay_fs fs) (.int k 1)).mono (by decide)
    | on fs => exact (l2 (sl 1 (by simp)) (lay_fs fs)).mono (by decide)
    | off => exact (l1 (sl 1 (by simp))).mono (by decide)
    | out => exact (l1 (sl 1 (by simp))).mono (by decide)
  cases t with
  | pair x y => exact l3 (sl 4 (by simp)) (wl g.1) (wl g.2)
  | wind x y => exact l3 (sl 4 (by simp)) (wl g.1) (wl g.2)
  | fn n vs => exact l3 (sl 4 (by simp)) (.int n 4) ((vl g.2.2.2).mono (by decide))
  | wait n vs => exact l3 (sl 4 (by simp)) (.int n 4) ((vl g.2.2.2).mono (by decide))
  | keep fs => exact l2 (sl 4 (by simp)) ((lay_fs fs).mono (by decide))
  | piece fs => exact l2 (sl 4 (by simp)) ((lay_fs fs).mono (by decide))
  | once fs u => exact l3 (sl 4 (by simp)) ((lay_fs fs).mono (by decide)) (.int u 4)
  | pass b => exact l2 (sl 4 (by simp)) (.int b 4)
  | mark => exact l1 (sl 4 (by simp))
  | give r x => exact l3 (sl 4 (by simp)) (rl.mono (by decide)) (l2 (sl 3 (by simp)) ((lay_W g.2.ok).mono (by decide)))
  | call r x vs => exact l3 (sl 4 (by simp)) (rl.mono (by decide)) (l3 (sl 3 (by simp)) ((lay_W g.2.1.ok).mono (by decide)) (vl g.2.2.2))
theorem tOf_good {n : Nat} {es : List (Int × Tn)} {b : Int} (z : Es n es) (m : b ∈ births n) : ∃ t : Tn, tOf es b = t.enc ∧ t.good (births n) := by
  rw [← z.bs] at m
  obtain ⟨e, me, ee⟩ := List.mem_map.mp m
  unfold tOf
  cases q : es.find? (fun e => decide (e.1 = b)) with
  | none =>
    have := List.find?_eq_none.mp q e me
    simp [ee] at this
  | some e' => exact ⟨e'.2, rfl, z.gd e' (List.mem_of_find?_eq_some q)⟩
theorem lay_told {n : Nat} {es : List (Int × Tn)} {S : List Int} (z : Es n es) (hs : ∀ b ∈ S, b ∈ births n) : ∀ t ∈ toldD es S, Lay 8 t := fun d m => by
  obtain ⟨b, mb, rfl⟩ := List.mem_map.mp m
  obtain ⟨t, e, g⟩ := tOf_good z (hs b mb)
  rw [e]
  refine .tup fun d m => ?_
  rcases List.mem_cons.mp m with rfl | m
  · exact .int b _
  · rw [List.mem_singleton.mp m]
    exact (lay_T g).mono (by decide)
theorem flat_told (es : List (Int × Tn)) (S : List Int) : flatDs (toldD es S) = true := flatDs_of _ fun d m => by
  obtain ⟨b, _, rfl⟩ := List.mem_map.mp m
  simp [flatD, flatDs, flat_tOf]
theorem sm_flds {c : W} {ws : List W} {fs : List Int} {ts : List PyData} {b1 b2 b3 b4 : Int} (oc : Sm 1 132 c.enc) (ow : Sm 2 1340 (wsT ws)) (of : Sm 1 660 (intsT fs)) (ot : Sm 6 966960 (.tuple ts)) (h1 : Sm 0 64 (.int b1)) (h2 : Sm 0 64 (.int b2)) (h3 : Sm 0 64 (.int b3)) (h4 : Sm 0 64 (.int b4)) :
    Sm 7 (2 ^ 20) (.list (flds c ws fs ts b1 b2 b3 b4)) := by
  refine ⟨?_, ?_, ?_⟩
  · simp only [okD, okDs]
    simp only [oc.ok, ow.ok, of.ok, show okDs ts = true from ot.ok, Bool.and_true, Bool.true_and]
    have a1 := h1.ok
    have a2 := h2.ok
    have a3 := h3.ok
    have a4 := h4.ok
    simp only [okD] at a1 a2 a3 a4
    simp [a1, a2, a3, a4]
  · have := oc.dp
    have := ow.dp
    have := of.dp
    have := ot.dp
    have := h1.dp
    have := h2.dp
    have := h3.dp
    have := h4.dp
    simp only [PyData.depth, PyData.depthAll] at *
    omega
  · have := oc.wt
    have := ow.wt
    have := of.wt
    have := ot.wt
    have := h1.wt
    have := h2.wt
    have := h3.wt
    have := h4.wt
    simp only [PyData.weight, PyData.weightAll] at *
    omega
end K06

namespace K06
open PySem L2 Cm PyProof.Rows LamX NdefX
def spLaw (K : PySem.W.Frag) (T : List (Addr × Str)) : Sp := fun vs H Q _ => ∃ (a : Addr) (ns : List Int), vs = [.ref a] ∧ SqL K H a (ns.map V.int) ∧ ns.length ≤ 63 ∧ Tabs T H ∧ ∀ H', Q (.bl true) H'
structure Calls (P : Program) (w : World) (K : PySem.W.Frag) (mg : Str → Option Value) (base : Heap) (C : Addr) (T : List (Addr × Str)) : Prop where
  hand : Cl P w K mg base 1 "_law_hand" (spHand K)
  draw : Cl P w K mg base 2 "_law_draw" spDraw
  pick : Cl P w K mg base 3 "_law_pick" (spPick K)
  some : Cl P w K mg base 4 "_law_some_value" (spSv K)
  values : Cl P w K mg base 5 "_law_values" (spVs K)
  frames : Cl P w K mg base 4 "_law_frames" (spFr K)
  thing : Cl P w K mg base 6 "_law_thing" (spTg K)
  due : Cl P w K mg base 3 "_law_due" (spDue K)
  changed : Cl P w K mg base 3 "_law_changed" (spCh K)
  standing : Cl P w K mg base 3 "_law_standing" (spSt K C)
  forms : Cl P w K mg base 3 "_law_forms" spFm
  reached : Cl P w K mg base 4 "reached" (spReached K T)
  eq : EqC P w K mg base 1 C (spEqA K C namesS)
  tS : ClsT K mg "Standing" C namesS
structure Ki (i : Nat) (ks : List (Int × Str)) : Prop where
  bs : ks.map (·.1) = births i
  wd : ∀ e ∈ ks, e.2 ∈ words
  ps : ∀ b, (b, ("pass" : Str)) ∈ ks → ∃ b', (b', ("once" : Str)) ∈ ks
theorem Ki.len {i : Nat} {ks : List (Int × Str)} (z : Ki i ks) : ks.length = i := by
  have := congrArg List.length z.bs
  rw [List.length_map, births_len] at this
  exact this
theorem Ki.snoc {i : Nat} {ks : List (Int × Str)} (z : Ki i ks) {x : Str} (hx : x ∈ words) (hp : x = "pass" → ∃ b', (b', ("once" : Str)) ∈ ks) : Ki (i + 1) (ks ++ [((i : Int) + 1, x)]) := by
  refine ⟨?_, fun e m => ?_, fun b m => ?_⟩
  · rw [List.map_append, z.bs, births_succ]
    rfl
  · rcases List.mem_append.mp m with m | m
    · exact z.wd e m
    · rw [List.mem_singleton.mp m]; exact hx
  · have up : (∃ b', (b', ("once" : Str)) ∈ ks) → ∃ b', (b', ("once" : Str)) ∈ ks ++ [((i : Int) + 1, x)] := fun ⟨b', m'⟩ => ⟨b', List.mem_append_left _ m'⟩
    rcases List.mem_append.mp m with m | m
    · exact up (z.ps b m)
    · have := (Prod.mk.inj (List.mem_singleton.mp m)).2
      exact up (hp this.symm)
theorem range_on (p : Str → Bool) (ks : List (Int × Str)) : (List.range ks.length).filterMap (fun i => (ks[i]?).bind fun e => if p e.2 = true then some (kD e) else none) = (ks.filter fun e => p e.2).map kD := by
  induction ks with
  | nil => rfl
  | cons a l ih =>
    rw [List.length_cons, List.range_succ_eq_map, List.filterMap_cons, List.filter_cons, List.filterMap_map]
    by_cases z : p a.2 = true
    · simp only [List.getElem?_cons_zero, Option.bind_some, z, if_true]
      exact congrArg _ ih
    · simp only [List.getElem?_cons_zero, Option.bind_some, if_neg z]
      exact ih
theorem lay_word {x : Str} (m : x ∈ words) (n : Nat) : Lay n (.str x) := by
  refine .str ?_ n
  simp only [List.mem_cons, List.not_mem_nil, or_false] at m
  rcases m with rfl | rfl | rfl | rfl | rfl | rfl | rfl | rfl | rfl | rfl <;> decide +kernel
theorem lay_kD {e : Int × Str} (m : e.2 ∈ words) : Lay 1 (kD e) := .tup fun d md => by
  rcases List.mem_cons.mp md with rfl | md
  · exact .int _ _
  · rw [List.mem_singleton.mp md]; exact lay_word m _
/-- while the kinds are drawn -/
structure Zb (K : PySem.W.Frag) (TT : List (Addr × Str)) (h cc wl kd : Addr) (ks : List (Int × Str)) (H : Hp) : Prop where
  hh : Hand H h cc
  hw : H wl = some (.lst (words.map V.str))
  nw : wl ≠ h
  nk : kd ≠ h
  nc : kd ≠ cc
  kw : kd ≠ wl
  kd : ∃ us, H kd = some (.lst us) ∧ DpAll K H us (ks.map kD)
  tb : Tabs TT H
theorem Zb.same {K : PySem.W.Frag} {TT : List (Addr × Str)} {h cc wl kd : Addr} {ks : List (Int × Str)} {H H' : Hp} (z : Zb K TT h cc wl kd ks H) (s : Same H H') : Zb K TT h cc wl kd ks H' := by
  obtain ⟨us, e, a⟩ := z.kd
  exact ⟨z.hh.same s, s _ _ z.hw, z.nw, z.nk, z.nc, z.kw, ⟨us, s _ _ e, dps_same s _ _ a⟩, z.tb.ext s⟩
theorem Zb.kh {K : PySem.W.Frag} {TT : List (Addr × Str)} {h cc wl kd : Addr} {ks : List (Int × Str)} {H H' : Hp} (z : Zb K TT h cc wl kd ks H) (k : Kh h H H') (hh : Hand H' h cc) : Zb K TT h cc wl kd ks H' := by
  obtain ⟨us, e, a⟩ := z.kd
  obtain ⟨xs, ex⟩ := z.hh.lst
  exact ⟨hh, k.st _ _ z.nw z.hw, z.nw, z.nk, z.nc, z.kw, ⟨us, k.st _ _ z.nk e, dps_keep (fun _ _ q => k.tup q) _ _ (flat_kD ks) a⟩, tabs_kh6 z.tb ex k⟩
def pairD (e : Int × Tn) : PyData := .tuple [.int e.1, e.2.enc]
theorem flat_pairs (es : List (Int × Tn)) : flatDs (es.map pairD) = true := flatDs_of _ fun x m => by
  obtain ⟨y, _, rfl⟩ := List.mem_map.mp m
  simp [pairD, flatD, flatDs, flat_Tn]
theorem dps_pairs {K : PySem.W.Frag} {H : Hp} : ∀ {es : List (Int × Tn)} {acc : List V}, DpAll K H acc (es.map pairD) → ∃ (ps : List Addr) (kvs : List (Key × V)), acc = ps.map V.ref ∧ Paired (fun p kv => SqT K H p [kV kv.1, kv.2]) ps kvs ∧ kvs.map (·.1) = es.map (fun e => (Sum.inl e.1 : Key)) ∧ DpAll K H (kvs.map (·.2)) (es.map fun e => e.2.enc)
  | [], acc, h => by
    cases h
    exact ⟨[], [], rfl, .nil, rfl, .nil⟩
  | e :: es, acc, h => by
    cases h with
    | cons h1 h2 =>
      obtain ⟨ps, kvs, rfl, a, b, c⟩ := dps_pairs h2
      cases h1 with
      | @tup t its ds hs ha =>
        cases ha with
        | cons g1 g2 =>
          cases g1
          cases g2 with
          | @cons v d vs ds g1 g2 =>
            cases g2
            exact ⟨t :: ps, (Sum.inl e.1, v) :: kvs, rfl, .cons hs a, by rw [List.map_cons, List.map_cons, b], .cons g1 c⟩
theorem keys_nd {es : List (Int × Tn)} {n : Nat} {kvs : List (Key × V)} (h : kvs.map (·.1) = es.map (fun e => (Sum.inl e.1 : Key))) (b : es.map (·.1) = births n) : (kvs.map (·.1)).Nodup := by
  rw [h, show es.map (fun e => (Sum.inl e.1 : Key)) = (es.map (·.1)).map Sum.inl from by rw [List.map_map]; rfl, b]
  exact List.pairwise_map.mpr ((births_nd n).imp fun q z => q (Sum.inl.inj z))
theorem ite_tC {c : Prop} [Decidable c] {x y : Int} {σ : L2.St} {H : Hp} {Q : VK} (hx : 0 ≤ x ∧ x ≤ 10) (hy : 0 ≤ y ∧ y ≤ 10) (h : ∀ m : Nat, m ≤ 10 → Q (.int m) H) : if c then tC (.int x) σ H Q else tC (.int y) σ H Q := by
  have g : ∀ z : Int, 0 ≤ z ∧ z ≤ 10 → Q (.int z) H := fun z hz => by
    have := h z.toNat (by omega)
    rwa [Int.toNat_of_nonneg hz.1] at this
  by_cases q : c
  · rw [if_pos q]; exact g x hx
  · rw [if_neg q]; exact g y hy
theorem find_mem : ∀ {es : List (Int × Tn)} {b : Int} {t : Tn}, (es.map (·.1)).Nodup → (b, t) ∈ es → es.find? (fun e => decide (e.1 = b)) = some (b, t)
  | e :: es, b, t, n, m => by
    rw [List.map_cons, List.nodup_cons] at n
    rcases List.mem_cons.mp m with rfl | m
    · rw [List.find?_cons_of_pos (by simp)]
    · rw [List.find?_cons_of_neg (by
        intro q
        have : e.1 = b := of_decide_eq_true q
        exact n.1 (List.mem_map.mpr ⟨(b, t), m, this.symm⟩))]
      exact find_mem n.2 m
theorem tOf_perm {es es' : List (Int × Tn)} (nd : (es.map (·.1)).Nodup) (p : es'.Perm es) {b : Int} (m : b ∈ es.map (·.1)) : tOf es' b = tOf es b := by
  obtain ⟨e, me, rfl⟩ := List.mem_map.mp m
  rw [tOf_at (find_mem nd me), tOf_at (find_mem ((p.map (·.1)).nodup_iff.mpr nd) (p.mem_iff.mpr me))]
theorem told_perm {es es' : List (Int × Tn)} (nd : (es.map (·.1)).Nodup) (p : es'.Perm es) {S : List Int} (m : ∀ b ∈ S, b ∈ es.map (·.1)) : toldD es' S = toldD es S :=
  List.map_congr_left fun b mb => by rw [tOf_perm nd p (m b mb)]
theorem reach_perm {es es' : List (Int × Tn)} {ro : List Int} (p : es'.Perm es) (b : Int) : Reach es' ro b ↔ Reach es ro b :=
  ⟨fun r => reach_sub (S := Reach es ro) (fun _ m => .root m) (fun _ _ _ a m n => .step a (p.mem_iff.mp m) n) r, fun r => reach_sub (S := Reach es' ro) (fun _ m => .root m) (fun _ _ _ a m n => .step a (p.mem_iff.mpr m) n) r⟩
theorem reach_in {n : Nat} {es : List (Int × Tn)} {ro : List Int} (z : Es n es) (hr : ∀ b ∈ ro, b ∈ births n) {b : Int} (r : Reach es ro b) : b ∈ births n :=
  reach_sub (S := fun b => b ∈ births n) hr (fun a t b _ m mb => good_nm (z.gd _ m) b mb) r
theorem valV_mem : ∀ {kvs : List (Key × V)} {p : Key × V}, (kvs.map (·.1)).Nodup → p ∈ kvs → valV kvs p.1 = some p.2
  | e :: kvs, p, n, m => by
    rw [List.map_cons, List.nodup_cons] at n
    rcases List.mem_cons.mp m with rfl | m
    · unfold valV
      rw [List.find?_cons_of_pos (by simp)]
      rfl
    · unfold valV
      rw [List.find?_cons_of_neg (by
        intro q
        have : e.1 = p.1 := of_decide_eq_true q
        exact n.1 (List.mem_map.mpr ⟨p, m, this.symm⟩))]
      exact valV_mem n.2 m
theorem tup_ref {K : PySem.W.Frag} {H : Hp} {v : V} {ds : List PyData} (h : Dp K H v (.tuple ds)) : ∃ a, v = .ref a := by
  obtain ⟨a, _, e, _⟩ := dp_tup h
  exact ⟨a, e⟩
theorem tn_tup (t : Tn) : ∃ ds, t.enc = .tuple ds := by cases t <;> exact ⟨_, rfl⟩
theorem Ths.same_all {K : PySem.W.Frag} {d : Addr} {es : List (Int × Tn)} {kvs kvs' : List (Key × V)} {H : Hp} {n : Nat} (t : Ths K d es kvs H) (b : es.map (·.1) = births n) (p : kvs'.Perm kvs) : ∀ q ∈ kvs', valV kvs q.1 = some q.2 ∧ sameV q.2 := fun q m => by
  have mq := p.mem_iff.mp m
  refine ⟨valV_mem (keys_nd t.ks b) mq, .inr ?_⟩
  obtain ⟨i, hi⟩ := List.getElem?_of_mem (List.mem_map.mpr ⟨q, mq, rfl⟩ : q.2 ∈ kvs.map (·.2))
  obtain ⟨x, g1, g2⟩ := DpAll.atV t.vs hi
  obtain ⟨e, _, rfl⟩ := map_at g1
  obtain ⟨ds, ed⟩ := tn_tup e.2
  rw [ed] at g2
  exact tup_ref g2
/-- what a turn holds -/
structure Zt (K : PySem.W.Frag) (TT : List (Addr × Str)) (h cc kd d : Addr) (ks : List (Int × Str)) (es : List (Int × Tn)) (kvs : List (Key × V)) (v9 v10 v11 v12 : V) (c : W) (ws : List W) (fs S : List Int) (H : Hp) : Prop where
  z : Zw K TT h cc kd d ks es kvs H
  d9 : Dp K H v9 c.enc
  d10 : Dp K H v10 (wsT ws)
  d11 : Dp K H v11 (intsT fs)
  d12 : Dp K H v12 (.tuple (toldD es S))
theorem flat_toldT (es : List (Int × Tn)) (S : List Int) : flatD (.tuple (toldD es S)) = true := flat_told es S
section
variable {K : PySem.W.Frag} {TT : List (Addr × Str)} {h cc kd d : Addr} {ks : List (Int × Str)} {es : List (Int × Tn)} {kvs : List (Key × V)} {v9 v10 v11 v12 : V} {c : W} {ws : List W} {fs S : List Int} {H H' : Hp}
theorem Zt.mv (x : Zt K TT h cc kd d ks es kvs v9 v10 v11 v12 c ws fs S H) (z : Zw K TT h cc kd d ks es kvs H') (s : ∀ a xs, SqT K H a xs → SqT K H' a xs) : Zt K TT h cc kd d ks es kvs v9 v10 v11 v12 c ws fs S H' :=
  ⟨z, dp_keep s _ _ (flat_W c) x.d9, dp_keep s _ _ (flat_wsT ws) x.d10, dp_keep s _ _ (flat_intsT fs) x.d11, dp_keep s _ _ (flat_toldT es S) x.d12⟩
theorem Zt.same (x : Zt K TT h cc kd d ks es kvs v9 v10 v11 v12 c ws fs S H) (s : Same H H') : Zt K TT h cc kd d ks es kvs v9 v10 v11 v12 c ws fs S H' := x.mv (x.z.same s) fun _ _ q => sqt_same s q
theorem Zt.kh (x : Zt K TT h cc kd d ks es kvs v9 v10 v11 v12 c ws fs S H) (k : Kh h H H') (hh : Hand H' h cc) : Zt K TT h cc kd d ks es kvs v9 v10 v11 v12 c ws fs S H' := x.mv (x.z.kh k hh) fun _ _ q => k.tup q
theorem Zt.ext (x : Zt K TT h cc kd d ks es kvs v9 v10 v11 v12 c ws fs S H) (e : ExtN H H') (tb : Tabs TT H') : Zt K TT h cc kd d ks es kvs v9 v10 v11 v12 c ws fs S H' := x.mv (x.z.ext e tb) fun _ _ q => sqt_ext e q
end
theorem same_lock {H H' : Hp} {d : Addr} {o : Obj} {u : HO} (e : H d = some u) (s : Same (upd H d (.frz o u)) H') : Same H (upd H' d u) := fun b x q => by
  by_cases z : b = d
  · subst z
    rw [upd_same, ← e]
    exact q
  · rw [upd_ne z]
    exact s b x (by rw [upd_ne z]; exact q)
theorem eqs_refl : ∀ {ds : List PyData}, (∀ d ∈ ds, SeqAt.shaped d = true) → eqs ds ds = true
  | [], _ => rfl
  | d :: ds, h => by
    have e := ne_same' (h d List.mem_cons_self)
    rw [Bool.not_eq_false'] at e
    rw [eqs_t e]
    exact eqs_refl fun x m => h x (List.mem_cons_of_mem _ m)
end K06

namespace K06
open PySem L2 Cm PyProof.Rows LamX NdefX
section
variable {P : Program} {w : World} {K : PySem.W.Frag} {mg : Str → Option Value} {base : Heap} {C0 : Addr} {TT : List (Addr × Str)}
abbrev s_law : Stmt := top 31
abbrev N_law : List Str := ["_law_script", "_law_hand_here", "_law_words", "_law_kinds", "_law_birth", "_law_kind", "_law_each", "_law_things", "_law_turn", "_law_callee", "_law_handed", "_law_frames_here", "_law_due_here", "_law_kept", "_law_born", "_law_fields", "_law_one", "_law_told"]
theorem sc_law : FnScope N_law ["_law_script"] (defScope s_law) := ⟨rfl, rfl, rfl, by decide +kernel, rfl, by decide +kernel, by decide +kernel⟩
theorem ok_law {f : Addr} {fd : FuncData} (T : Txt mg) (C : Calls P w K mg base C0 TT) (F : Fun K "law" "law" s_law f fd) : LawAt P w K mg base 7 f fd ["_law_script"] (spLaw K TT) := by
  refine lawAt_of F sc_law (fun vs H Q E h => ?_) fun cdv A outer s H vs Q E hgd hr h => ?_
  · obtain ⟨a, ns, rfl, _⟩ := h
    rfl
  · obtain ⟨a, ns0, rfl, hS, hlen, hT, k⟩ := h
    have hu := hu_of hr
    refine ⟨_, (pss_cons (ps_set (i := 1) sc_law.nd rfl (Or.inr rfl) (pe_c C.hand hr (by decide) (by rfl) (pa_cons (pv 0) pa_nil)))
      (pss_cons (ps_set (i := 2) sc_law.nd rfl (Or.inl rfl) (pe_lst (pa_cons pe_str (pa_cons pe_str (pa_cons pe_str (pa_cons pe_str (pa_cons pe_str (pa_cons pe_str (pa_cons pe_str (pa_cons pe_str (pa_cons pe_str (pa_cons pe_str pa_nil))))))))))))
      (pss_cons (ps_set (i := 3) sc_law.nd rfl (Or.inr rfl) (pe_lst pa_nil))
      (pss_mid (ps_for PassesOwn.never rfl (pi_range2 (by rfl) T.range (pa_cons pe_int (pa_cons (pe_op op_add pe_int (pe_c C.draw hr (by decide) (by rfl) (pa_cons (pv 1) (pa_cons pe_int pa_nil)))) pa_nil))) (pg_name (i := 4) sc_law.nd rfl (Or.inl rfl))
        (pss_cons (ps_set (i := 5) sc_law.nd rfl (Or.inl rfl) (pe_c C.pick hr (by decide) (by rfl) (pa_cons (pv 1) (pa_cons (pv 2) pa_nil))))
        (pss_mid (ps_if (PW.pt (pw_and (pt_cmpR op_eq (pv 5) pe_str (nomark _)) (pw_and1 (pt_cmpR (op_eqD hr.units) (pe_lc (own := [("_law_each", 6)]) rfl sc_law.nd (pi_list (pv 3)) (blkOk_by (N := N_law) (sc := defScope s_law) (by decide +kernel))
      (fun _ _ _ _ _ => (pg_name (i := 6) sc_law.nd rfl (Or.inl rfl)))
      (fun _ _ _ _ _ => (pts_one (pt_cmpR op_eq (pe_ix (kx_tup (K := K)) (pv 6) pe_int (fun _ _ => rfl)) pe_str (nomark _))))
      (fun _ _ _ _ _ => (pv 6))) (pe_lst pa_nil) (nomark _)))))
          (pss_one (ps_set (i := 5) sc_law.nd rfl (Or.inl rfl) pe_str))
          pss_nil)
        (pss_one (ps_expr (pe_bm PySem.F.plainAttrs_list PySem.F.slot_list_append PySem.F.type_list_append mt_append (pv 3) (pa_cons (pe_tup (pa_cons (pv 4) (pa_cons (pv 5) pa_nil))) pa_nil)))))))
      (pss_cons (ps_set (i := 7) sc_law.nd rfl (Or.inr rfl) (pe_callTy (call_dictP rfl) (by rfl) T.dict (by decide +kernel) (pa_cons (pe_lc (own := [("_law_birth", 4), ("_law_kind", 5)]) (g := gTup K 2 (gCons (gName 4) (gCons (gName 5) gNil))) rfl sc_law.nd (pi_list (pv 3)) (blkOk_by (N := N_law) (sc := defScope s_law) (by decide +kernel))
      (fun _ _ _ _ _ => (pg_tup rfl (pgs_cons (pg_name (i := 4) sc_law.nd rfl (Or.inl rfl)) (pgs_cons (pg_name (i := 5) sc_law.nd rfl (Or.inl rfl)) pgs_nil))))
      (fun _ _ _ _ _ => pts_nil)
      (fun _ _ _ _ _ => (pe_tup (pa_cons (pv 4) (pa_cons (pe_c C.thing hr (by decide) (by rfl) (pa_cons (pv 1) (pa_cons (pv 3) (pa_cons (pv 5) pa_nil)))) pa_nil))))) pa_nil)))
      (pss_cons (ps_if (pt_not (pt_val (pe_c C.forms hr (by decide) (by rfl) (pa_cons (pv 1) pa_nil))))
        (pss_one (ps_ret pe_bl))
        pss_nil)
      (pss_mid (ps_for PassesOwn.never rfl (pi_range1 (by rfl) T.range (pa_cons pe_int pa_nil)) (pg_name (i := 8) sc_law.nd rfl (Or.inl rfl))
        (pss_cons (ps_set (i := 9) sc_law.nd rfl (Or.inl rfl) (pe_c C.some hr (by decide) (by rfl) (pa_cons (pv 1) (pa_cons (pv 3) pa_nil))))
        (pss_cons (ps_set (i := 10) sc_law.nd rfl (Or.inl rfl) (pe_c C.values hr (by decide) (by rfl) (pa_cons (pv 1) (pa_cons (pv 3) (pa_cons pe_int pa_nil)))))
        (pss_cons (ps_set (i := 11) sc_law.nd rfl (Or.inl rfl) (pe_c C.frames hr (by decide) (by rfl) (pa_cons (pv 1) (pa_cons (pv 3) (pa_cons (pe_ifExp (pt_cmpR op_gt (pv 8) pe_int (nomark _)) pe_int pe_int) pa_nil)))))
        (pss_cons (ps_set (i := 12) sc_law.nd rfl (Or.inl rfl) (pe_c C.due hr (by decide) (by rfl) (pa_cons (pv 9) (pa_cons (pv 10) (pa_cons (pv 11) (pa_cons (pv 7) pa_nil))))))
        (pss_cons (ps_set (i := 13) sc_law.nd rfl (Or.inl rfl) (pe_callTy (call_dictP rfl) (by rfl) T.dict (by decide +kernel) (pa_cons (pe_lock (pe_lc (own := [("_law_birth", 4)]) rfl sc_law.nd (pi_keysM (pv 7)) (blkOk_by (N := N_law) (sc := defScope s_law) (by decide +kernel))
      (fun _ _ _ _ _ => (pg_name (i := 4) sc_law.nd rfl (Or.inl rfl)))
      (fun _ _ _ _ _ => pts_nil)
      (fun _ _ _ _ _ => (pe_tup (pa_cons (pv 4) (pa_cons (pe_dget hu (pv 7) (pv 4) (fun _ _ => rfl)) pa_nil)))))) pa_nil)))
        (pss_mid (ps_if (pt_cmpR op_eq (pv 8) pe_int (nomark _))
          (pss_one (ps_set (i := 13) sc_law.nd rfl (Or.inl rfl) (pe_callTy (call_dictP rfl) (by rfl) T.dict (by decide +kernel) (pa_cons (pe_lc (own := [("_law_birth", 4)]) rfl sc_law.nd (pi_list (pe_revL (pe_callB (call_sortedK rfl) (by rfl) T.sorted (by decide +kernel) (pa_cons (pe_keys (pv 7)) pa_nil)))) (blkOk_by (N := N_law) (sc := defScope s_law) (by decide +kernel))
      (fun _ _ _ _ _ => (pg_name (i := 4) sc_law.nd rfl (Or.inl rfl)))
      (fun _ _ _ _ _ => pts_nil)
      (fun _ _ _ _ _ => (pe_tup (pa_cons (pv 4) (pa_cons (pe_dget hu (pv 7) (pv 4) (fun _ _ => rfl)) pa_nil))))) pa_nil))))
          pss_nil)
        (pss_cons (ps_if (PW.pt (pw_or (pt_cmpR op_ne (pe_callB (call_reprD hgd hr.units) (by rfl) T.repr (by decide +kernel) (pa_cons (pe_c C.reached hr (by decide) (by rfl) (pa_cons (pv 9) (pa_cons (pv 10) (pa_cons (pv 11) (pa_cons (pv 13) pa_nil))))) pa_nil)) (pe_callB (call_reprD hgd hr.units) (by rfl) T.repr (by decide +kernel) (pa_cons (pv 12) pa_nil)) (nomark _)) (pw_or1 (pt_cmpR (op_neDS (Nat.lt_of_le_of_lt (Nat.le_add_right _ 1) hu)) (pv 13) (pv 7) (nomark _)))))
          (pss_one (ps_ret pe_bl))
          pss_nil)
        (pss_cons (ps_set (i := 14) sc_law.nd rfl (Or.inl rfl) (pe_op op_add (pe_callB call_lenD (by rfl) T.len (by decide +kernel) (pa_cons (pv 7) pa_nil)) (pe_c C.draw hr (by decide) (by rfl) (pa_cons (pv 1) (pa_cons pe_int pa_nil)))))
        (pss_cons (ps_set (i := 15) sc_law.nd rfl (Or.inl rfl) (pe_lst (pa_cons (pv 9) (pa_cons (pv 10) (pa_cons (pv 11) (pa_cons (pv 12) (pa_cons (pv 14) (pa_cons (pe_c C.draw hr (by decide) (by rfl) (pa_cons (pv 1) (pa_cons pe_int pa_nil))) (pa_cons (pe_c C.draw hr (by decide) (by rfl) (pa_cons (pv 1) (pa_cons pe_int pa_nil))) (pa_cons (pe_c C.draw hr (by decide) (by rfl) (pa_cons (pv 1) (pa_cons pe_int pa_nil))) pa_nil))))))))))
        (pss_cons (ps_set (i := 16) sc_law.nd rfl (Or.inl rfl) (pe_c C.standing hr (by decide) (by rfl) (pa_cons (pv 15) pa_nil)))
        (pss_cons (ps_if (PW.pt (pw_or (pt_not (pt_cmpR (op_eqO C.eq hr (by decide)) (pv 16) (pe_c C.standing hr (by decide) (by rfl) (pa_cons (pe_callTy call_list_of (by rfl) T.list (by decide +kernel) (pa_cons (pv 15) pa_nil)) pa_nil)) (nomark _))) (pw_or1 (pt_cmpR (op_eqO C.eq hr (by decide)) (pv 16) (pe_c C.standing hr (by decide) (by rfl) (pa_cons (pe_c C.changed hr (by decide) (by rfl) (pa_cons (pv 1) (pa_cons (pv 15) pa_nil))) pa_nil)) (nomark _)))))
          (pss_one (ps_ret pe_bl))
          pss_nil)
        (pss_cons (ps_set (i := 17) sc_law.nd rfl (Or.inl rfl) (pe_lst (pa_cons (pe_fld (pv 16) rfl) (pa_cons (pe_fld (pv 16) rfl) (pa_cons (pe_fld (pv 16) rfl) (pa_cons (pe_fld (pv 16) rfl) (pa_cons (pe_fld (pv 16) rfl) (pa_cons (pe_fld (pv 16) rfl) (pa_cons (pe_fld (pv 16) rfl) (pa_cons (pe_fld (pv 16) rfl) pa_nil))))))))))
        (pss_one (ps_if (pt_cmpR op_ne (pe_callB (call_reprD hgd hr.units) (by rfl) T.repr (by decide +kernel) (pa_cons (pv 17) pa_nil)) (pe_callB (call_reprD hgd hr.units) (by rfl) T.repr (by decide +kernel) (pa_cons (pv 15) pa_nil)) (nomark _))
          (pss_one (ps_ret pe_bl))
          pss_nil)))))))))))))))
      (pss_one (ps_ret pe_bl))))))))), ?_⟩
    refine ⟨_, rfl, a, ns0, rfl, hS, hlen, fun h cc H1 s1 hn1 hn2 hh1 => ?_⟩
    refine ⟨by show 10 ≤ sizeLine; decide, fun wl hwl => ?_⟩
    have s2 := same_new (o := .lst (words.map V.str)) hwl
    refine ⟨by show 0 ≤ sizeLine; decide, fun kd hkd => ?_⟩
    have s3 := same_new (o := .lst ([] : List V)) hkd
    have zb : Zb K TT h cc wl kd [] (upd (upd H1 wl (.lst (words.map V.str))) kd (.lst [])) := ⟨(hh1.same s2).same s3, s3 _ _ upd_same, (hh1.there hwl).1, ((hh1.same s2).there hkd).1, ((hh1.same s2).there hkd).2, fun z => (by rw [z, upd_same] at hkd; cases hkd), ⟨[], upd_same, .nil⟩, ((hT.ext s1).ext s2).ext s3⟩
    refine ⟨fun σ' H' => ∃ (n : Nat) (ks : List (Int × Str)) (v4 v5 : Option V), σ' = [some (.ref a), some (.ref h), some (.ref wl), some (.ref kd), v4, v5, none, none, none, none, none, none, none, none, none, none, none, none] ∧ n ≤ 40 ∧ Ki n ks ∧ Zb K TT h cc wl kd ks H', ?_, ?_⟩
    · refine ⟨_, rfl, h, cc, 41, rfl, zb.hh, by decide, by decide, fun n1 H4 n1a n1b k4 hh4 => ?_⟩
      have z4 := zb.kh k4 hh4
      refine ⟨_, _, rfl, rfl, _, _, rfl, ⟨by decide, by decide, by omega, by omega⟩, ?_⟩
      refine for_it (walk_range (lo := 1) (n := (1 + n1 - 1).toNat)) (fun i σ H' => ∃ (ks : List (Int × Str)) (v4 v5 : Option V), σ = [some (.ref a), some (.ref h), some (.ref wl), some (.ref kd), v4, v5, none, none, none, none, none, none, none, none, none, none, none, none] ∧ Ki i ks ∧ Zb K TT h cc wl kd ks H') ⟨[], none, none, rfl, ⟨rfl, fun e m => (by cases m), fun b m => (by cases m)⟩, z4⟩ (fun _ _ _ _ _ => trivial) (fun i x σ H5' H5 hi z y => ?_) (fun σ H' z => ?_)
      · obtain ⟨ks, v4, v5, rfl, ki, z5⟩ := z
        obtain ⟨rfl, rfl⟩ := y
        refine ⟨_, rfl, _, rfl, h, cc, wl, words.map V.str, rfl, z5.hh, .inl ⟨.inl (.inl z5.hw), z5.nw⟩, by decide +kernel, by decide +kernel, fun v H6 mv k6 hh6 => ?_⟩
        obtain ⟨x, mx, rfl⟩ : ∃ x ∈ words, v = .str x := by
          obtain ⟨x, m1, m2⟩ := List.mem_map.mp mv
          exact ⟨x, m1, m2.symm⟩
        have z6 := z5.kh k6 hh6
        refine ⟨fun σ' H' => ∃ (x' : Str), σ' = [some (.ref a), some (.ref h), some (.ref wl), some (.ref kd), some (.int (1 + (i : Int))), some (.str x'), none, none, none, none, none, none, none, none, none, none, none, none] ∧ x' ∈ words ∧ (x' = "pass" → ∃ b', (b', ("once" : Str)) ∈ ks) ∧ Zb K TT h cc wl kd ks H', ?_, ?_⟩
        · refine ⟨_, rfl, rfl, _, rfl, ?_⟩
          rw [decS]
          by_cases zx : x = "pass"
          · rw [decide_eq_true zx]
            obtain ⟨us, ek, ak⟩ := z6.kd
            have lus : us.length = ks.length := by have := DpAll.len ak; rwa [List.length_map] at this
            have lks := ki.len
            let p : Str → Bool := fun y => decide (y = "once")
            refine iteT ⟨_, rfl, kd, rfl, ⟨us, .inl (.inl ek)⟩, fun Dc hDc => ?_⟩
            refine lc_data (K := K) (walk_list (K := K) (a := kd) (xs := us)) (fun i => (ks[i]?).bind fun e => if p e.2 = true then some (kD e) else none) hDc (by omega) (fun H' s => .inl (.inl (s _ _ ek))) (fun i _ d e => ?_) ?_ ?_
            · obtain ⟨b, _, e⟩ := Option.bind_eq_some_iff.mp e
              split at e
              · cases e; rfl
              · cases e
            · rintro i y H7' H7 hi s7 ⟨rfl, ex⟩ Q1 Q0 q1 q0
              obtain ⟨d, g1, g2⟩ := DpAll.atV ak ex
              obtain ⟨e, ee, rfl⟩ := map_at g1
              have g3 := dp_same s7 _ _ g2
              obtain ⟨t, rfl, ht⟩ := dp_kD g3
              refine ⟨rfl, _, rfl, t, _, _, _, rfl, rfl, ht, atI_nat (j := 1) rfl, rfl, _, rfl, ?_⟩
              rw [decS]
              by_cases zo : e.2 = "once"
              · rw [decide_eq_true zo]
                exact iteT ⟨_, rfl, q1 _ _ (kD e) (by rw [ee]; show (if p e.2 = true then some (kD e) else none) = _; rw [if_pos (decide_eq_true zo)]) (Same.refl _) g3⟩
              · rw [decide_eq_false zo]
                exact iteF (q0 _ (by rw [ee]; show (if p e.2 = true then some (kD e) else none) = _; rw [if_neg fun q => zo (of_decide_eq_true q)]) (Same.refl _))
            · intro H7 acc s7 hacc ha
              rw [lus, range_on] at ha
              refine ⟨by show 0 ≤ sizeLine; decide, fun l0 hl0 => ?_⟩
              have s8 := same_new (o := .lst ([] : List V)) hl0
              have z8 := (z6.same s7).same s8
              refine ⟨.list ((ks.filter fun (e : Int × Str) => p e.2).map kD), .list [], .lst (.inl (.inl (s8 _ _ hacc))) (dps_same s8 _ _ ha), .lst (.inl (.inl upd_same)) .nil, (Lay.lst (n := 1) fun d m => ?_).sh (by decide), rfl, _, rfl, ?_⟩
              · obtain ⟨e, me, rfl⟩ := List.mem_map.mp m
                exact lay_kD (ki.wd e (List.mem_filter.mp me).1)
              cases hf : ks.filter fun e => p e.2 with
              | nil => exact iteT ⟨"once", rfl, by decide +kernel, fun e => absurd e (by decide +kernel), z8⟩
              | cons e l =>
                refine iteF ⟨x, rfl, mx, fun _ => ?_, z8⟩
                have me : e ∈ ks.filter fun e => p e.2 := by rw [hf]; exact List.mem_cons_self
                obtain ⟨m1, m2⟩ := List.mem_filter.mp me
                exact ⟨e.1, by rw [← show e.2 = ("once" : Str) from of_decide_eq_true m2]; exact m1⟩
          · rw [decide_eq_false zx]
            exact iteF (iteF ⟨x, rfl, mx, fun e => absurd e zx, z6⟩)
        · rintro σ2 H7 ⟨x', rfl, mx', hp, z7⟩
          obtain ⟨us, ek, ak⟩ := z7.kd
          have lus : us.length = ks.length := by have := DpAll.len ak; rwa [List.length_map] at this
          have lks := ki.len
          refine ⟨_, rfl, .inl ⟨rfl, us, .inl (.inl ek)⟩, _, rfl, _, rfl, by show 2 ≤ sizeLine; decide, fun q hq => ?_⟩
          have s8 := same_new (o := .tup [V.int (1 + (i : Int)), V.str x']) hq
          have z8 := z7.same s8
          have eq8 : upd H7 q (.tup [V.int (1 + (i : Int)), V.str x']) q = some (.tup [V.int (1 + (i : Int)), V.str x']) := upd_same
          have ek8 := s8 _ _ ek
          have ak8 := dps_same s8 _ _ ak
          generalize upd H7 q (.tup [V.int (1 + (i : Int)), V.str x']) = H8 at *
          refine ⟨kd, us, _, rfl, rfl, ek8, Nat.lt_of_lt_of_le (show us.length < 1000 by omega) (by decide), ?_⟩
          refine ⟨ks ++ [((i : Int) + 1, x')], _, _, rfl, ki.snoc mx' hp, ?_⟩
          have sk : ∀ {b : Addr} {xs zs : List V}, SqT K H8 b xs → SqT K (upd H8 kd (.lst zs)) b xs := fun q => sqt_put ek8 q
          refine ⟨z8.hh.puts z8.nk z8.nc, by rw [upd_ne z8.kw.symm]; exact z8.hw, z8.nw, z8.nk, z8.nc, z8.kw, ⟨_, upd_same, ?_⟩, fun p hp => ?_⟩
          · rw [List.map_append]
            refine DpAll.app (dps_keep (fun _ _ q => sk q) _ _ (flat_kD ks) ak8) (.cons (.tup (sk (.inl (.inl eq8))) (.cons ?_ (.cons (.str _) .nil))) .nil)
            rw [show (i : Int) + 1 = 1 + i by omega]
            exact .int _
          · obtain ⟨ps, t1, t2, t3⟩ := z8.tb p hp
            refine ⟨ps, by rw [upd_ne fun z => by rw [z, ek8] at t1; cases t1]; exact t1, t2, fun pos cv hc => ?_⟩
            obtain ⟨c', u1, u2⟩ := t3 pos cv hc
            exact ⟨c', u1, by rw [upd_ne fun z => by rw [z, ek8] at u2; unfold CodeO at u2; cases u2]; exact u2⟩
      · obtain ⟨ks, v4, v5, rfl, ki, z5⟩ := z
        exact ⟨_, ks, v4, v5, rfl, by omega, ki, z5⟩
    · rintro σ1 H5 ⟨n, ks, v4, v5, rfl, hn, ki, z5⟩
      have lks := ki.len
      have kds : Kds ks := ⟨by rw [lks]; exact ki.bs, by omega, ki.wd, ki.ps⟩
      obtain ⟨us, ek, ak⟩ := z5.kd
      have lus : us.length = ks.length := by have := DpAll.len ak; rwa [List.length_map] at this
      refine ⟨_, rfl, kd, rfl, ⟨us, .inl (.inl ek)⟩, fun Dc hDc => ?_⟩
      have nD := z5.hh.there hDc
      refine lc_drawJ (K := K) (M := fun x => x = h) (walk_list (K := K) (a := kd) (xs := us)) (fun i ds H' => Hand H' h cc ∧ ∃ es : List (Int × Tn), es.map (·.1) = births i ∧ ds = es.map pairD ∧ ∀ e ∈ es, e.2.good (births n)) (fun x q => by subst q; exact z5.hh.lst) ⟨z5.hh.same (same_new hDc), [], rfl, rfl, fun e m => (by cases m)⟩
        (fun i ds H' ys _ j => ⟨j.1.puts nD.1 nD.2, j.2⟩) hDc (by omega) (fun i ds H' kp _ => .inl (.inl (kp.st _ _ z5.nk ek))) (fun i ds H' j => by obtain ⟨_, es, _, rfl, _⟩ := j; exact flat_pairs es) ?_ ?_
      · rintro i x ds H6 H6' hi k6 ⟨hh6, es, be, rfl, ge⟩ ⟨rfl, ex⟩ Q1 Q0 q1 q0
        obtain ⟨d, g1, g2⟩ := DpAll.atV ak ex
        obtain ⟨e, ee, rfl⟩ := map_at g1
        have g3 := dp_keep (fun _ _ q => k6.tup q) _ _ rfl g2
        obtain ⟨t, rfl, ht⟩ := dp_kD g3
        have me := List.mem_of_getElem? ee
        have z6 := z5.kh k6 hh6
        have e1 : e.1 = (i : Int) + 1 := by
          have q : (ks.map (·.1))[i]? = some e.1 := by rw [List.getElem?_map, ee]; rfl
          rw [ki.bs] at q
          unfold births at q
          rw [List.getElem?_map, List.getElem?_range (by omega)] at q
          exact (Option.some.inj q).symm
        refine ⟨t, _, rfl, ht, rfl, _, _, rfl, _, _, rfl, rfl, rfl, iteT (B := Q0 H6') ⟨_, rfl, _, rfl, _, rfl, _, rfl, h, cc, kd, ks, e.2, rfl, hh6, ⟨z6.nk, z6.kd⟩, kds, fun ep => ki.ps e.1 (by rw [← ep]; exact me), fun v tn H7 k7 hh7 d7 g7 => ?_⟩⟩
        refine ⟨by show 2 ≤ sizeLine; decide, fun q hq => ?_⟩
        have s8 := same_new (o := .tup [V.int e.1, v]) hq
        have g7' : tn.good (births n) := by rw [← ki.bs]; exact g7
        refine q1 _ _ (pairD (e.1, tn)) (k7.trans (hh7.kh s8)) ⟨hh7.same s8, es ++ [(e.1, tn)], ?_, ?_, fun e' m' => ?_⟩ (.tup (.inl (.inl upd_same)) (.cons (.int _) (.cons (dp_same s8 _ _ d7) .nil)))
        · rw [List.map_append, be, births_succ, e1]
          rfl
        · rw [List.map_append]
          rfl
        · rcases List.mem_append.mp m' with m' | m'
          · exact ge e' m'
          · rw [List.mem_singleton.mp m']; exact g7'
      · rintro H6 acc ds k6 ⟨hh6, es, be, rfl, ge⟩ hacc ha
        rw [lus, lks] at be
        obtain ⟨ps, kvs, rfl, hp, hk, hv⟩ := dps_pairs ha
        have nd := keys_nd hk be
        refine ⟨Dc, ps, kvs, rfl, .inl (.inl hacc), hp, fun d hd => ?_⟩
        rw [show mergeK [] kvs = kvs from merge_new (kvs := []) (by rw [List.nil_append]; exact nd)]
        have s7 := same_new (o := .dK kvs) hd
        have Ee : Es n es := ⟨be, hn, ge⟩
        have z6 := z5.kh k6 hh6
        have zw : Zw K TT h cc kd d ks es kvs (upd H6 d (.dK kvs)) := ⟨hh6.same s7, ((⟨z6.nk, z6.kd⟩ : KdAt K H6 h kd ks).same s7), ⟨upd_same, hk, dps_same s7 _ _ hv⟩, z6.tb.ext s7⟩
        generalize upd H6 d (.dK kvs) = H7 at *
        refine ⟨_, rfl, h, cc, rfl, zw.hh, fun H8 k8 hh8 => ?_⟩
        have z8 := zw.kh k8 hh8
        have bk : ks.map (·.1) = births n := ki.bs
        refine ⟨_, rfl, iteF ?_⟩
        refine ⟨fun σ' H' => ∃ v8 v9 v10 v11 v12 v13 v14 v15 v16 v17 : Option V, σ' = [some (.ref a), some (.ref h), some (.ref wl), some (.ref kd), v4, v5, none, some (.ref d), v8, v9, v10, v11, v12, v13, v14, v15, v16, v17] ∧ Zw K TT h cc kd d ks es kvs H', ?_, ?_⟩
        · refine ⟨3, rfl, by decide, by decide, ?_⟩
          refine for_it (walk_range (lo := 0) (n := 3)) (fun i σ' H' => ∃ v8 v9 v10 v11 v12 v13 v14 v15 v16 v17 : Option V, σ' = [some (.ref a), some (.ref h), some (.ref wl), some (.ref kd), v4, v5, none, some (.ref d), v8, v9, v10, v11, v12, v13, v14, v15, v16, v17] ∧ Zw K TT h cc kd d ks es kvs H') ⟨_, _, _, _, _, _, _, _, _, _, rfl, z8⟩ (fun _ _ _ _ _ => trivial) (fun i x σ H9' H9 hi z y => ?_) (fun σ H' z => z)
          obtain ⟨v8, v9, v10, v11, v12, v13, v14, v15, v16, v17, rfl, z9⟩ := z
          obtain ⟨rfl, rfl⟩ := y
          refine ⟨_, rfl, _, rfl, h, cc, kd, ks, rfl, z9.hh, z9.kk, kds, fun u9 c H10 k10 hh10 d9 gc => ?_⟩
          have z10 := z9.kh k10 hh10
          rw [bk] at gc
          refine ⟨_, rfl, _, rfl, h, cc, kd, ks, 4, rfl, z10.hh, z10.kk, kds, by decide, fun u10 ws H11 k11 hh11 d10 lws gws => ?_⟩
          have z11 := z10.kh k11 hh11
          have d9' := dp_keep (fun _ _ q => k11.tup q) _ _ (flat_W c) d9
          rw [bk] at gws
          refine ⟨_, rfl, _, rfl, _, rfl, _, _, rfl, rfl, _, rfl, ?_⟩
          refine ite_tC ⟨by decide, by decide⟩ ⟨by decide, by decide⟩ fun m hm => ?_
          refine ⟨h, cc, kd, ks, m, rfl, z11.hh, z11.kk, kds, hm, fun u11 fs H12 k12 hh12 d11 lfs gfs => ?_⟩
          have z12 := z11.kh k12 hh12
          rw [bk] at gfs
          have d9'' := dp_keep (fun _ _ q => k12.tup q) _ _ (flat_W c) d9'
          have d10' := dp_keep (fun _ _ q => k12.tup q) _ _ (flat_wsT ws) d10
          obtain ⟨hd10, us10, rfl, q10, a10⟩ := dp_tup d10'
          obtain ⟨fr11, rfl, q11⟩ := dp_ints_inv d11
          have hro : ∀ b ∈ c.refs ++ ws.flatMap W.refs ++ fs, b ∈ births n := fun b mb => by
            rcases List.mem_append.mp mb with mb | mb
            · rcases List.mem_append.mp mb with mb | mb
              · exact gc.on b mb
              · obtain ⟨x, mx, mb⟩ := List.mem_flatMap.mp mb
                exact (gws x mx).on b mb
            · exact gfs b mb
          have wld := Ee.wld (List.Perm.refl es) hro
          refine ⟨_, rfl, _, rfl, _, rfl, _, rfl, u9, hd10, fr11, d, c, ws, us10, fs, es, kvs, rfl, d9'', q10, a10, by omega, q11, by omega, z12.th, wld, fun r12 S H13 s13 hS hm d12 => ?_⟩
          have hSb : ∀ b ∈ S, b ∈ births n := fun b mb => reach_in Ee hro ((hm b).mp mb)
          have zt13 : Zt K TT h cc kd d ks es kvs u9 (.ref hd10) (.ref fr11) (.ref r12) c ws fs S H13 := ⟨z12.same s13, dp_same s13 _ _ d9'', dp_same s13 _ _ d10', dp_same s13 _ _ d11, d12⟩
          have lkv : kvs.length = es.length := by have := congrArg List.length z12.th.ks; rwa [List.length_map, List.length_map] at this
          have les : es.length = n := by have := congrArg List.length be; rwa [List.length_map, births_len] at this
          clear d9 d9' d9'' d10 d10' d11 d12 z9 z10 z11 z12 z8 q10 q11 a10
          refine ⟨d, .dK kvs, zt13.z.th.at_, trivial, fun od => ?_⟩
          refine ⟨_, rfl, d, od, kvs, rfl, upd_same, fun D2 hD2 => ?_⟩
          refine lc_pairs walk_keys kvs rfl hD2 (by omega) (fun H' s => s _ _ upd_same) ?_ ?_
          · rintro i2 x H14 H14' kv ekv s14 ⟨rfl, k0, v0, e0, rfl⟩ Q1 Q0 q1
            obtain rfl : kv = (k0, v0) := Option.some.inj (ekv.symm.trans e0)
            refine ⟨rfl, iteT (B := Q0 H14') ⟨_, rfl, _, rfl, _, rfl, d, v0, rfl, .inl ⟨kvs, k0, .inr ⟨od, s14 _ _ upd_same⟩, rfl, (valV_mem nd (List.mem_of_getElem? e0)).symm⟩, by show 2 ≤ sizeLine; decide, fun q hq => ?_⟩⟩
            exact q1 q _ (same_new hq) upd_same
          · intro H14 acc s14 hacc hp2
            have ed := s14 _ _ upd_same
            have s15 := same_lock zt13.z.th.at_ s14
            have nDd : D2 ≠ d := fun z => by rw [z, ed] at hacc; cases hacc
            have hacc' : upd H14 d (.dK kvs) D2 = some (.lst (acc.map V.ref)) := by rw [upd_ne nDd]; exact hacc
            have hp3 : Paired (fun p kv => SqT K (upd H14 d (.dK kvs)) p [kV kv.1, kv.2]) acc kvs := Paired.mapP hp2 fun b kv e => .inl (.inl (by
              rw [upd_ne fun z => by rw [z] at e; unfold isPair at e; rw [ed] at e; cases e]
              exact e))
            refine ⟨ed, D2, acc, kvs, rfl, .inl (.inl hacc'), hp3, fun k1 hk1 => ?_⟩
            rw [show mergeK [] kvs = kvs from merge_new (kvs := []) (by rw [List.nil_append]; exact nd)]
            have s16 := same_new (o := .dK kvs) hk1
            have zt16 := zt13.same (s15.trans s16)
            have e16 : upd (upd H14 d (.dK kvs)) k1 (.dK kvs) k1 = some (.dK kvs) := upd_same
            have n16 : k1 ≠ d := fun z => by rw [z, upd_same] at hk1; cases hk1
            generalize upd (upd H14 d (.dK kvs)) k1 (.dK kvs) = H16 at *
            clear hp2 hp3 hacc hacc' ed s14 s15 zt13
            refine ⟨fun σ' H' => ∃ (kp : Addr) (kvs' : List (Key × V)) (es' : List (Int × Tn)), σ' = [some (.ref a), some (.ref h), some (.ref wl), some (.ref kd), v4, v5, none, some (.ref d), some (.int (0 + (i : Int))), some u9, some (.ref hd10), some (.ref fr11), some (.ref r12), some (.ref kp), v14, v15, v16, v17] ∧
              Zt K TT h cc kd d ks es kvs u9 (.ref hd10) (.ref fr11) (.ref r12) c ws fs S H' ∧ kp ≠ d ∧ es'.Perm es ∧ kvs'.Perm kvs ∧ Ths K kp es' kvs' H', ?_, ?_⟩
            · refine ⟨_, rfl, rfl, _, rfl, ?_⟩
              refine ite2 (fun _ => ?_) (fun _ => ?_)
              · refine ⟨_, rfl, d, rfl, ⟨kvs, zt16.z.th.at_⟩, fun rv hrv => ?_⟩
                have s17 := same_new (o := ViewO rv d) hrv
                have hk16 := zt16.z.th.ks
                have hkb : kvs.map (·.1) = (births n).map Sum.inl := by
                  rw [hk16, ← be, List.map_map]
                  rfl
                refine ⟨rv, d, kvs, births n, rfl, upd_same, s17 _ _ zt16.z.th.at_, hkb, by rw [births_len]; omega, fun ys p hpm hs hn' => ?_⟩
                have ey : ys = births n := asc_uniq (asc_of hs (hpm.nodup_iff.mpr (births_nd n))) (births_asc n) fun x => hpm.mem_iff
                subst ey
                have s18 := same_new (o := .lst ((births n).map V.int)) hn'
                refine ⟨p, _, rfl, .inl (.inl upd_same), fun r hr => ⟨r, rfl, ⟨_, .inl (.inl upd_same)⟩, fun D3 hD3 => ?_⟩⟩
                have s19 := same_new (o := .lst ((births n).map V.int).reverse) hr
                have er : upd (upd (upd H16 rv (ViewO rv d)) p (.lst ((births n).map V.int))) r (.lst ((births n).map V.int).reverse) r = some (.lst ((births n).map V.int).reverse) := upd_same
                have ss := (s17.trans s18).trans s19
                have hrev : kvs.reverse.map (fun q => kV q.1) = ((births n).map V.int).reverse := by
                  rw [List.map_reverse, show kvs.map (fun q => kV q.1) = (kvs.map (·.1)).map kV from by rw [List.map_map]; rfl, hkb, List.map_map]
                  rfl
                have nd2 : (kvs.reverse.map (·.1)).Nodup := by rw [List.map_reverse]; exact (List.reverse_perm _).nodup_iff.mpr nd
                generalize upd (upd (upd H16 rv (ViewO rv d)) p (.lst ((births n).map V.int))) r (.lst ((births n).map V.int).reverse) = H19 at *
                have zt19 := zt16.same ss
                refine lc_pairs (walk_list (a := r) (xs := ((births n).map V.int).reverse)) kvs.reverse (by rw [List.length_reverse, List.length_reverse, List.length_map, births_len]; omega) hD3 (by rw [List.length_reverse, List.length_map, births_len]; omega) (fun H' s => .inl (.inl (s _ _ er))) ?_ ?_
                · rintro i2 x H20' H20 kv ekv s20 ⟨rfl, ex⟩ Q1 Q0 q1
                  have ex2 : x = kV kv.1 := by
                    rw [← hrev, List.getElem?_map, ekv] at ex
                    exact (Option.some.inj ex).symm
                  subst ex2
                  have mk := List.mem_reverse.mp (List.mem_of_getElem? ekv)
                  have g := DGet.k (k := kv.1) (s20 _ _ zt19.z.th.at_)
                  rw [valV_mem nd mk] at g
                  refine ⟨rfl, iteT (B := Q0 H20) ⟨_, rfl, _, rfl, _, rfl, d, kv.2, rfl, g, by show 2 ≤ sizeLine; decide, fun q hq => ?_⟩⟩
                  exact q1 q _ (same_new hq) upd_same
                · intro H20 acc s20 hacc hp2
                  refine ⟨D3, acc, kvs.reverse, rfl, .inl (.inl hacc), Paired.mapP hp2 fun b kv e => .inl (.inl e), fun k2 hk2 => ?_⟩
                  rw [show mergeK [] kvs.reverse = kvs.reverse from merge_new (kvs := []) (by rw [List.nil_append]; exact nd2)]
                  have s21 := same_new (o := .dK kvs.reverse) hk2
                  have zt21 := zt19.same (s20.trans s21)
                  have nk2 : k2 ≠ d := fun z => by rw [z, s20 _ _ zt19.z.th.at_] at hk2; cases hk2
                  refine ⟨k2, kvs.reverse, es.reverse, rfl, zt21, nk2, List.reverse_perm _, List.reverse_perm _, upd_same, ?_, ?_⟩
                  · rw [List.map_reverse, List.map_reverse, hk16]
                  · rw [List.map_reverse, List.map_reverse]
                    exact DpAll.rev zt21.z.th.vs
              · exact ⟨k1, kvs, es, rfl, zt16, n16, List.Perm.refl _, List.Perm.refl _, e16, zt16.z.th.ks, zt16.z.th.vs⟩
            · rintro σ2 H17 ⟨kp, kvs', es', rfl, zt17, nkp, pe, pk, thk⟩
              obtain ⟨t10, us17, et, q10, a10⟩ := dp_tup zt17.d10
              cases et
              obtain ⟨t11, et, q11⟩ := dp_ints_inv zt17.d11
              cases et
              refine ⟨_, rfl, _, rfl, _, rfl, _, rfl, u9, hd10, fr11, kp, c, ws, us17, fs, es', kvs', rfl, zt17.d9, q10, a10, by omega, q11, by omega, thk, Ee.wld pe hro, zt17.z.tb, fun r18 S' H18 eN tb18 hS' hm' dr => ?_⟩
              have eS : S' = S := asc_uniq hS' hS fun x => (hm' x).trans ((reach_perm pe x).trans (hm x).symm)
              subst eS
              have zt18 := zt17.ext eN tb18
              have thk18 := thk.ext eN
              have nds : (es.map (·.1)).Nodup := by rw [be]; exact births_nd n
              have dr' : Dp K H18 (.ref r18) (.tuple (toldD es S')) := by
                rw [← told_perm nds pe (S := S') (fun b mb => by rw [be]; exact hSb b mb)]
                exact dr
              obtain ⟨smt, lS⟩ := sm_told Ee hSb (hS.imp fun q => by omega)
              refine ⟨_, _, rfl, .inl dr', smt.ok, Nat.le_trans smt.dp (by decide), Nat.le_trans smt.wt (by decide), ?_⟩
              refine ⟨_, rfl, _, _, rfl, .inl zt18.d12, smt.ok, Nat.le_trans smt.dp (by decide), Nat.le_trans smt.wt (by decide), rfl, _, rfl, ?_⟩
              rw [ne_same]
              refine iteF ⟨_, rfl, _, rfl, kp, d, kvs', kvs, rfl, rfl, thk18.at_, zt18.z.th.at_, pk.length_eq, zt18.z.th.same_all be pk, _, rfl, iteF ?_⟩
              refine ⟨_, rfl, d, kvs, rfl, zt18.z.th.at_, _, rfl, h, cc, 100, rfl, zt18.z.hh, by decide, by decide, fun n14 H19 n14a n14b k19 hh19 => ⟨_, _, rfl, rfl, ?_⟩⟩
              have zt19 := zt18.kh k19 hh19
              refine ⟨_, rfl, _, rfl, _, rfl, _, rfl, _, rfl, _, rfl, h, cc, 2001, rfl, zt19.z.hh, by decide, by decide, fun n1 H20 n1a n1b k20 hh20 => ?_⟩
              have zt20 := zt19.kh k20 hh20
              refine ⟨_, rfl, h, cc, 41, rfl, zt20.z.hh, by decide, by decide, fun n2 H21 n2a n2b k21 hh21 => ?_⟩
              have zt21 := zt20.kh k21 hh21
              refine ⟨_, rfl, h, cc, 100, rfl, zt21.z.hh, by decide, by decide, fun n3 H22 n3a n3b k22 hh22 => ?_⟩
              have zt22 := zt21.kh k22 hh22
              clear zt17 zt18 zt19 zt20 zt21 k19 k20 k21 k22 dr dr' thk thk18 q10 a10 q11 eN tb18
              refine ⟨by show 8 ≤ sizeLine; decide, fun L hL => ?_⟩
              have sL := same_new (o := .lst [u9, .ref hd10, .ref fr11, .ref r12, .int ((kvs.length : Int) + n14), .int n1, .int n2, .int n3]) hL
              have nL : L ≠ h := (zt22.z.hh.there hL).1
              have eL : upd H22 L (.lst [u9, .ref hd10, .ref fr11, .ref r12, .int ((kvs.length : Int) + n14), .int n1, .int n2, .int n3]) L = some (.lst [u9, .ref hd10, .ref fr11, .ref r12, .int ((kvs.length : Int) + n14), .int n1, .int n2, .int n3]) := upd_same
              have zt23 := zt22.same sL
              generalize upd H22 L (.lst [u9, .ref hd10, .ref fr11, .ref r12, .int ((kvs.length : Int) + n14), .int n1, .int n2, .int n3]) = H23 at *
              have dL : DpAll K H23 [u9, .ref hd10, .ref fr11, .ref r12, .int ((kvs.length : Int) + n14), .int n1, .int n2, .int n3] (flds c ws fs (toldD es S') ((kvs.length : Int) + n14) n1 n2 n3) := .cons zt23.d9 (.cons zt23.d10 (.cons zt23.d11 (.cons zt23.d12 (.cons (.int _) (.cons (.int _) (.cons (.int _) (.cons (.int _) .nil)))))))
              have fT := flat_told es S'
              have fF := flat_flds (c := c) (ws := ws) (fs := fs) (b1 := (kvs.length : Int) + n14) (b2 := n1) (b3 := n2) (b4 := n3) fT
              have lyF := lay_flds (b1 := (kvs.length : Int) + n14) (b2 := n1) (b3 := n2) (b4 := n3) (fs := fs) gc.ok (wsok gws) (lay_told Ee hSb)
              have shF : ∀ x ∈ flds c ws fs (toldD es S') ((kvs.length : Int) + n14) n1 n2 n3, SeqAt.shaped x = true := fun x mx => (lyF x mx).sh (by decide)
              refine ⟨_, rfl, L, _, _, rfl, .inl (.inl eL), rfl, dL, fun p1 H24 s24 ob => ?_⟩
              have zt24 := zt23.same s24
              have eL24 := s24 _ _ eL
              have dL24 := dps_same s24 _ _ dL
              refine ⟨_, rfl, _, rfl, L, _, rfl, .inl (.inl (.inl eL24)), fun L2 hL2 => ?_⟩
              have s25 := same_new (o := .lst [u9, .ref hd10, .ref fr11, .ref r12, .int ((kvs.length : Int) + n14), .int n1, .int n2, .int n3]) hL2
              refine ⟨L2, _, _, rfl, .inl (.inl upd_same), rfl, dps_same s25 _ _ dL24, fun p2 H25 s25' ob2 => ?_⟩
              have s425 := s25.trans s25'
              have ob25 := ob.same s425
              refine eq_ob ob25 ob2 shF shF ⟨_, rfl, ?_⟩
              rw [eqs_refl shF]
              refine iteF ?_
              have zt25 := zt24.same s425
              have eL25 := s425 _ _ eL24
              have dL25 := dps_same s425 _ _ dL24
              clear zt22 zt23 zt24 ob ob2 s24 s25 s25' s425 eL24 dL24 dL eL
              refine ⟨_, rfl, _, rfl, _, rfl, h, cc, L, _, c, ws, fs, toldD es S', _, _, _, _, rfl, zt25.z.hh, nL, eL25, rfl, dL25, fT, gc.ok, wsok gws, lay_told Ee hSb, by omega, by omega, by unfold toldD; rw [List.length_map]; omega, fun r ys es2 H26 k26 hh26 nr er l8 dy ly ne => ?_⟩
              refine ⟨r, ys, es2, rfl, .inl (.inl er), l8, dy, fun p3 H27 s27 ob3 => ?_⟩
              have ob27 := (ob25.kp k26 fF).same s27
              refine eq_ob ob27 ob3 shF (fun x mx => (ly x mx).sh (by decide)) ⟨_, rfl, ?_⟩
              rw [ne]
              refine iteF ?_
              have zt27 := (zt25.kh k26 hh26).same s27
              have eL27 := s27 _ _ (k26.st _ _ nL eL25)
              have dL27 := dps_same s27 _ _ (dps_keep (fun _ _ q => k26.tup q) _ _ fF dL25)
              clear zt25 ob25 ob3 eL25 dL25
              obtain ⟨x0, y0, w0, h0, l0, e0⟩ := ob27.fld 0 rfl rfl (by decide +kernel)
              obtain ⟨x1, y1, w1, h1, l1, e1⟩ := ob27.fld 1 rfl rfl (by decide +kernel)
              obtain ⟨x2, y2, w2, h2, l2, e2⟩ := ob27.fld 2 rfl rfl (by decide +kernel)
              obtain ⟨x3, y3, w3, h3, l3, e3⟩ := ob27.fld 3 rfl rfl (by decide +kernel)
              obtain ⟨x4, y4, w4, h4, l4, e4⟩ := ob27.fld 4 rfl rfl (by decide +kernel)
              obtain ⟨x5, y5, w5, h5, l5, e5⟩ := ob27.fld 5 rfl rfl (by decide +kernel)
              obtain ⟨x6, y6, w6, h6, l6, e6⟩ := ob27.fld 6 rfl rfl (by decide +kernel)
              obtain ⟨x7, y7, w7, h7, l7, e7⟩ := ob27.fld 7 rfl rfl (by decide +kernel)
              refine ⟨_, rfl, p1, C0, x0, y0, w0, rfl, h0, C.tS.ins.cl, C.tS.no _ (by decide +kernel), l0, _, rfl, p1, C0, x1, y1, w1, rfl, h1, C.tS.ins.cl, C.tS.no _ (by decide +kernel), l1, _, rfl, p1, C0, x2, y2, w2, rfl, h2, C.tS.ins.cl, C.tS.no _ (by decide +kernel), l2, _, rfl, p1, C0, x3, y3, w3, rfl, h3, C.tS.ins.cl, C.tS.no _ (by decide +kernel), l3, _, rfl, p1, C0, x4, y4, w4, rfl, h4, C.tS.ins.cl, C.tS.no _ (by decide +kernel), l4, _, rfl, p1, C0, x5, y5, w5, rfl, h5, C.tS.ins.cl, C.tS.no _ (by decide +kernel), l5, _, rfl, p1, C0, x6, y6, w6, rfl, h6, C.tS.ins.cl, C.tS.no _ (by decide +kernel), l6, _, rfl, p1, C0, x7, y7, w7, rfl, h7, C.tS.ins.cl, C.tS.no _ (by decide +kernel), l7, ?_⟩
              refine ⟨by show 8 ≤ sizeLine; decide, fun LT hLT => ?_⟩
              have s28 := same_new (o := .lst [w0, w1, w2, w3, w4, w5, w6, w7]) hLT
              have smF := sm_flds (b1 := (kvs.length : Int) + n14) (b2 := n1) (b3 := n2) (b4 := n3) (sm_W gc.ok) (sm_ws (wsok gws) (by omega)) (sm_fs (fs := fs) (fun b mb => by have := births_mem.mp (gfs b mb); omega) (by omega)) smt (sm_int (by omega)) (sm_int (by omega)) (sm_int (by omega)) (sm_int (by omega))
              refine ⟨_, rfl, _, _, rfl, .inl (.lst (.inl (.inl upd_same)) (dps_same s28 _ _ (.cons e0 (.cons e1 (.cons e2 (.cons e3 (.cons e4 (.cons e5 (.cons e6 (.cons e7 .nil)))))))))), smF.ok, Nat.le_trans smF.dp (by decide), smF.wt, ?_⟩
              refine ⟨_, rfl, _, _, rfl, .inl (.lst (.inl (.inl (s28 _ _ eL27))) (dps_same s28 _ _ dL27)), smF.ok, Nat.le_trans smF.dp (by decide), smF.wt, rfl, _, rfl, ?_⟩
              rw [ne_same]
              exact iteF ⟨_, _, _, _, _, _, _, _, _, _, rfl, (zt27.same s28).z⟩
        · rintro σ3 H9 ⟨_, _, _, _, _, _, _, _, _, _, rfl, _⟩
          exact k _
end
end K06

namespace K06
open PySem L2 Cm PyProof.Rows LamX NdefX
theorem all_nil {α : Type} {P : α → Prop} : ∀ x ∈ ([] : List α), P x := fun x m => by cases m
theorem all_cons {α : Type} {P : α → Prop} {a : α} {l : List α} (h : P a) (r : ∀ x ∈ l, P x) : ∀ x ∈ a :: l, P x := fun x m => by
  rcases List.mem_cons.mp m with rfl | m
  · exact h
  · exact r x m
theorem at_mk {K : PySem.W.Frag} {h : Heap} {mg : Str → Option Value} {x : Str} {st : Stmt} {ps : List Str} {f : Addr} {oc : Value} {od an : Option Addr} {osl : Array (Option Value)} {kV doc pm cdv ct : Value} (X : K.In h) (G : h.Ns mainGlobals mg)
    (a : PySem.W.nsIn K mainGlobals x = some (some (.ref f))) (l : K.lookup f = some ⟨oc, od, .func (PySem.W.fnOf x x (defArgs st) (defBody st) (defScope st) .none kV doc pm an cdv ct), osl⟩) (c : PySem.W.codeIn K cdv x = true) (k : PySem.W.keepIn K (.ref f) = true)
    (b : ∀ (kV doc pm : Value) (an : Option Addr) (cdv ct : Value) (us : List Value), us.length = ps.length → bindArgs (PySem.W.fnOf x x (defArgs st) (defBody st) (defScope st) .none kV doc pm an cdv ct) ⟨us, []⟩ = pure (ps.zip us)) : At K mg x st ps :=
  ⟨_, _, fun_mk l c k, PySem.W.mg_of X G a, (fun_mk l c k).binds b⟩
theorem all_mk {l : PySem.W.OpenLaw} {w : World} {K : PySem.W.Frag} {h : Heap} {mg : Str → Option Value} {fa f0 f1 f2 f3 f4 f5 f6 f7 f8 f9 f10 f11 f12 f13 f14 f15 f16 f17 f18 f19 f20 f21 f22 : Addr} (X : K.In h) (G : h.Ns mainGlobals mg) (hfa : mg "law" = some (.ref fa))
    {od0 an0 : Option Addr} {sl0 : Array (Option Value)} {oc0 kV0 dc0 pm0 cd0 ct0 : Value} (a0 : PySem.W.nsIn K mainGlobals "_law_mix" = some (some (.ref f0))) (l0 : K.lookup f0 = some ⟨oc0, od0, .func (PySem.W.fnOf "_law_mix" "_law_mix" (defArgs s_l_mix) (defBody s_l_mix) (defScope s_l_mix) .none kV0 dc0 pm0 an0 cd0 ct0), sl0⟩) (c0 : PySem.W.codeIn K cd0 "_law_mix" = true) (k0 : PySem.W.keepIn K (.ref f0) = true)
    {od1 an1 : Option Addr} {sl1 : Array (Option Value)} {oc1 kV1 dc1 pm1 cd1 ct1 : Value} (a1 : PySem.W.nsIn K mainGlobals "_law_hand" = some (some (.ref f1))) (l1 : K.lookup f1 = some ⟨oc1, od1, .func (PySem.W.fnOf "_law_hand" "_law_hand" (defArgs s_l_hand) (defBody s_l_hand) (defScope s_l_hand) .none kV1 dc1 pm1 an1 cd1 ct1), sl1⟩) (c1 : PySem.W.codeIn K cd1 "_law_hand" = true) (k1 : PySem.W.keepIn K (.ref f1) = true)
    {od2 an2 : Option Addr} {sl2 : Array (Option Value)} {oc2 kV2 dc2 pm2 cd2 ct2 : Value} (a2 : PySem.W.nsIn K mainGlobals "_law_draw" = some (some (.ref f2))) (l2 : K.lookup f2 = some ⟨oc2, od2, .func (PySem.W.fnOf "_law_draw" "_law_draw" (defArgs s_l_draw) (defBody s_l_draw) (defScope s_l_draw) .none kV2 dc2 pm2 an2 cd2 ct2), sl2⟩) (c2 : PySem.W.codeIn K cd2 "_law_draw" = true) (k2 : PySem.W.keepIn K (.ref f2) = true)
    {od3 an3 : Option Addr} {sl3 : Array (Option Value)} {oc3 kV3 dc3 pm3 cd3 ct3 : Value} (a3 : PySem.W.nsIn K mainGlobals "_law_pick" = some (some (.ref f3))) (l3 : K.lookup f3 = some ⟨oc3, od3, .func (PySem.W.fnOf "_law_pick" "_law_pick" (defArgs s_l_pick) (defBody s_l_pick) (defScope s_l_pick) .none kV3 dc3 pm3 an3 cd3 ct3), sl3⟩) (c3 : PySem.W.codeIn K cd3 "_law_pick" = true) (k3 : PySem.W.keepIn K (.ref f3) = true)
    {od4 an4 : Option Addr} {sl4 : Array (Option Value)} {oc4 kV4 dc4 pm4 cd4 ct4 : Value} (a4 : PySem.W.nsIn K mainGlobals "row_of" = some (some (.ref f4))) (l4 : K.lookup f4 = some ⟨oc4, od4, .func (PySem.W.fnOf "row_of" "row_of" (defArgs s_p_row_of) (defBody s_p_row_of) (defScope s_p_row_of) .none kV4 dc4 pm4 an4 cd4 ct4), sl4⟩) (c4 : PySem.W.codeIn K cd4 "row_of" = true) (k4 : PySem.W.keepIn K (.ref f4) = true)
    {od5 an5 : Option Addr} {sl5 : Array (Option Value)} {oc5 kV5 dc5 pm5 cd5 ct5 : Value} (a5 : PySem.W.nsIn K mainGlobals "worths_of" = some (some (.ref f5))) (l5 : K.lookup f5 = some ⟨oc5, od5, .func (PySem.W.fnOf "worths_of" "worths_of" (defArgs s_p_worths_of) (defBody s_p_worths_of) (defScope s_p_worths_of) .none kV5 dc5 pm5 an5 cd5 ct5), sl5⟩) (c5 : PySem.W.codeIn K cd5 "worths_of" = true) (k5 : PySem.W.keepIn K (.ref f5) = true)
    {od6 an6 : Option Addr} {sl6 : Array (Option Value)} {oc6 kV6 dc6 pm6 cd6 ct6 : Value} (a6 : PySem.W.nsIn K mainGlobals "births_in" = some (some (.ref f6))) (l6 : K.lookup f6 = some ⟨oc6, od6, .func (PySem.W.fnOf "births_in" "births_in" (defArgs s_p_births_in) (defBody s_p_births_in) (defScope s_p_births_in) .none kV6 dc6 pm6 an6 cd6 ct6), sl6⟩) (c6 : PySem.W.codeIn K cd6 "births_in" = true) (k6 : PySem.W.keepIn K (.ref f6) = true)
    {od7 an7 : Option Addr} {sl7 : Array (Option Value)} {oc7 kV7 dc7 pm7 cd7 ct7 : Value} (a7 : PySem.W.nsIn K mainGlobals "births_of" = some (some (.ref f7))) (l7 : K.lookup f7 = some ⟨oc7, od7, .func (PySem.W.fnOf "births_of" "births_of" (defArgs s_p_births_of) (defBody s_p_births_of) (defScope s_p_births_of) .none kV7 dc7 pm7 an7 cd7 ct7), sl7⟩) (c7 : PySem.W.codeIn K cd7 "births_of" = true) (k7 : PySem.W.keepIn K (.ref f7) = true)
    {od8 an8 : Option Addr} {sl8 : Array (Option Value)} {oc8 kV8 dc8 pm8 cd8 ct8 : Value} (a8 : PySem.W.nsIn K mainGlobals "_law_refs" = some (some (.ref f8))) (l8 : K.lookup f8 = some ⟨oc8, od8, .func (PySem.W.fnOf "_law_refs" "_law_refs" (defArgs s_l_refs) (defBody s_l_refs) (defScope s_l_refs) .none kV8 dc8 pm8 an8 cd8 ct8), sl8⟩) (c8 : PySem.W.codeIn K cd8 "_law_refs" = true) (k8 : PySem.W.keepIn K (.ref f8) = true)
    {od9 an9 : Option Addr} {sl9 : Array (Option Value)} {oc9 kV9 dc9 pm9 cd9 ct9 : Value} (a9 : PySem.W.nsIn K mainGlobals "_law_named" = some (some (.ref f9))) (l9 : K.lookup f9 = some ⟨oc9, od9, .func (PySem.W.fnOf "_law_named" "_law_named" (defArgs s_l_named) (defBody s_l_named) (defScope s_l_named) .none kV9 dc9 pm9 an9 cd9 ct9), sl9⟩) (c9 : PySem.W.codeIn K cd9 "_law_named" = true) (k9 : PySem.W.keepIn K (.ref f9) = true)
    {od10 an10 : Option Addr} {sl10 : Array (Option Value)} {oc10 kV10 dc10 pm10 cd10 ct10 : Value} (a10 : PySem.W.nsIn K mainGlobals "reached_by" = some (some (.ref f10))) (l10 : K.lookup f10 = some ⟨oc10, od10, .func (PySem.W.fnOf "reached_by" "reached_by" (defArgs s_p_reached_by) (defBody s_p_reached_by) (defScope s_p_reached_by) .none kV10 dc10 pm10 an10 cd10 ct10), sl10⟩) (c10 : PySem.W.codeIn K cd10 "reached_by" = true) (k10 : PySem.W.keepIn K (.ref f10) = true)
    {od11 an11 : Option Addr} {sl11 : Array (Option Value)} {oc11 kV11 dc11 pm11 cd11 ct11 : Value} (a11 : PySem.W.nsIn K mainGlobals "is_value" = some (some (.ref f11))) (l11 : K.lookup f11 = some ⟨oc11, od11, .func (PySem.W.fnOf "is_value" "is_value" (defArgs s_p_is_value) (defBody s_p_is_value) (defScope s_p_is_value) .none kV11 dc11 pm11 an11 cd11 ct11), sl11⟩) (c11 : PySem.W.codeIn K cd11 "is_value" = true) (k11 : PySem.W.keepIn K (.ref f11) = true)
    {od12 an12 : Option Addr} {sl12 : Array (Option Value)} {oc12 kV12 dc12 pm12 cd12 ct12 : Value} (a12 : PySem.W.nsIn K mainGlobals "is_whole" = some (some (.ref f12))) (l12 : K.lookup f12 = some ⟨oc12, od12, .func (PySem.W.fnOf "is_whole" "is_whole" (defArgs s_p_is_whole) (defBody s_p_is_whole) (defScope s_p_is_whole) .none kV12 dc12 pm12 an12 cd12 ct12), sl12⟩) (c12 : PySem.W.codeIn K cd12 "is_whole" = true) (k12 : PySem.W.keepIn K (.ref f12) = true)
    {od13 an13 : Option Addr} {sl13 : Array (Option Value)} {oc13 kV13 dc13 pm13 cd13 ct13 : Value} (a13 : PySem.W.nsIn K mainGlobals "_law_some_value" = some (some (.ref f13))) (l13 : K.lookup f13 = some ⟨oc13, od13, .func (PySem.W.fnOf "_law_some_value" "_law_some_value" (defArgs s_l_some_value) (defBody s_l_some_value) (defScope s_l_some_value) .none kV13 dc13 pm13 an13 cd13 ct13), sl13⟩) (c13 : PySem.W.codeIn K cd13 "_law_some_value" = true) (k13 : PySem.W.keepIn K (.ref f13) = true)
    {od14 an14 : Option Addr} {sl14 : Array (Option Value)} {oc14 kV14 dc14 pm14 cd14 ct14 : Value} (a14 : PySem.W.nsIn K mainGlobals "_law_values" = some (some (.ref f14))) (l14 : K.lookup f14 = some ⟨oc14, od14, .func (PySem.W.fnOf "_law_values" "_law_values" (defArgs s_l_values) (defBody s_l_values) (defScope s_l_values) .none kV14 dc14 pm14 an14 cd14 ct14), sl14⟩) (c14 : PySem.W.codeIn K cd14 "_law_values" = true) (k14 : PySem.W.keepIn K (.ref f14) = true)
    {od15 an15 : Option Addr} {sl15 : Array (Option Value)} {oc15 kV15 dc15 pm15 cd15 ct15 : Value} (a15 : PySem.W.nsIn K mainGlobals "_law_frames" = some (some (.ref f15))) (l15 : K.lookup f15 = some ⟨oc15, od15, .func (PySem.W.fnOf "_law_frames" "_law_frames" (defArgs s_l_frames) (defBody s_l_frames) (defScope s_l_frames) .none kV15 dc15 pm15 an15 cd15 ct15), sl15⟩) (c15 : PySem.W.codeIn K cd15 "_law_frames" = true) (k15 : PySem.W.keepIn K (.ref f15) = true)
    {od16 an16 : Option Addr} {sl16 : Array (Option Value)} {oc16 kV16 dc16 pm16 cd16 ct16 : Value} (a16 : PySem.W.nsIn K mainGlobals "_law_road" = some (some (.ref f16))) (l16 : K.lookup f16 = some ⟨oc16, od16, .func (PySem.W.fnOf "_law_road" "_law_road" (defArgs s_l_road) (defBody s_l_road) (defScope s_l_road) .none kV16 dc16 pm16 an16 cd16 ct16), sl16⟩) (c16 : PySem.W.codeIn K cd16 "_law_road" = true) (k16 : PySem.W.keepIn K (.ref f16) = true)
    {od17 an17 : Option Addr} {sl17 : Array (Option Value)} {oc17 kV17 dc17 pm17 cd17 ct17 : Value} (a17 : PySem.W.nsIn K mainGlobals "_law_thing" = some (some (.ref f17))) (l17 : K.lookup f17 = some ⟨oc17, od17, .func (PySem.W.fnOf "_law_thing" "_law_thing" (defArgs s_l_thing) (defBody s_l_thing) (defScope s_l_thing) .none kV17 dc17 pm17 an17 cd17 ct17), sl17⟩) (c17 : PySem.W.codeIn K cd17 "_law_thing" = true) (k17 : PySem.W.keepIn K (.ref f17) = true)
    {od18 an18 : Option Addr} {sl18 : Array (Option Value)} {oc18 kV18 dc18 pm18 cd18 ct18 : Value} (a18 : PySem.W.nsIn K mainGlobals "_law_due" = some (some (.ref f18))) (l18 : K.lookup f18 = some ⟨oc18, od18, .func (PySem.W.fnOf "_law_due" "_law_due" (defArgs s_l_due) (defBody s_l_due) (defScope s_l_due) .none kV18 dc18 pm18 an18 cd18 ct18), sl18⟩) (c18 : PySem.W.codeIn K cd18 "_law_due" = true) (k18 : PySem.W.keepIn K (.ref f18) = true)
    {od19 an19 : Option Addr} {sl19 : Array (Option Value)} {oc19 kV19 dc19 pm19 cd19 ct19 : Value} (a19 : PySem.W.nsIn K mainGlobals "_law_changed" = some (some (.ref f19))) (l19 : K.lookup f19 = some ⟨oc19, od19, .func (PySem.W.fnOf "_law_changed" "_law_changed" (defArgs s_l_changed) (defBody s_l_changed) (defScope s_l_changed) .none kV19 dc19 pm19 an19 cd19 ct19), sl19⟩) (c19 : PySem.W.codeIn K cd19 "_law_changed" = true) (k19 : PySem.W.keepIn K (.ref f19) = true)
    {od20 an20 : Option Addr} {sl20 : Array (Option Value)} {oc20 kV20 dc20 pm20 cd20 ct20 : Value} (a20 : PySem.W.nsIn K mainGlobals "_law_standing" = some (some (.ref f20))) (l20 : K.lookup f20 = some ⟨oc20, od20, .func (PySem.W.fnOf "_law_standing" "_law_standing" (defArgs s_l_standing) (defBody s_l_standing) (defScope s_l_standing) .none kV20 dc20 pm20 an20 cd20 ct20), sl20⟩) (c20 : PySem.W.codeIn K cd20 "_law_standing" = true) (k20 : PySem.W.keepIn K (.ref f20) = true)
    {od21 an21 : Option Addr} {sl21 : Array (Option Value)} {oc21 kV21 dc21 pm21 cd21 ct21 : Value} (a21 : PySem.W.nsIn K mainGlobals "_law_forms" = some (some (.ref f21))) (l21 : K.lookup f21 = some ⟨oc21, od21, .func (PySem.W.fnOf "_law_forms" "_law_forms" (defArgs s_l_forms) (defBody s_l_forms) (defScope s_l_forms) .none kV21 dc21 pm21 an21 cd21 ct21), sl21⟩) (c21 : PySem.W.codeIn K cd21 "_law_forms" = true) (k21 : PySem.W.keepIn K (.ref f21) = true)
    {od22 an22 : Option Addr} {sl22 : Array (Option Value)} {oc22 kV22 dc22 pm22 cd22 ct22 : Value} (a22 : PySem.W.nsIn K mainGlobals "law" = some (some (.ref f22))) (l22 : K.lookup f22 = some ⟨oc22, od22, .func (PySem.W.fnOf "law" "law" (defArgs s_law) (defBody s_law) (defScope s_law) .none kV22 dc22 pm22 an22 cd22 ct22), sl22⟩) (c22 : PySem.W.codeIn K cd22 "law" = true) (k22 : PySem.W.keepIn K (.ref f22) = true)
    (z_abs : PySem.W.nsIn K mainGlobals "abs" = some none)
    (z_dict : PySem.W.nsIn K mainGlobals "dict" = some none)
    (z_enumerate : PySem.W.nsIn K mainGlobals "enumerate" = some none)
    (z_int : PySem.W.nsIn K mainGlobals "int" = some none)
    (z_isinstance : PySem.W.nsIn K mainGlobals "isinstance" = some none)
    (z_len : PySem.W.nsIn K mainGlobals "len" = some none)
    (z_list : PySem.W.nsIn K mainGlobals "list" = some none)
    (z_range : PySem.W.nsIn K mainGlobals "range" = some none)
    (z_repr : PySem.W.nsIn K mainGlobals "repr" = some none)
    (z_sorted : PySem.W.nsIn K mainGlobals "sorted" = some none)
    (z_str : PySem.W.nsIn K mainGlobals "str" = some none)
    (z_tuple : PySem.W.nsIn K mainGlobals "tuple" = some none)
    (z_bool : PySem.W.nsIn K mainGlobals "bool" = some none)
    {ca_TRUE : Addr} {od_TRUE : Option Addr} {n_TRUE : Nat} {sl_TRUE : Array (Option Value)} {tk0_TRUE : Tok} (g_TRUE : PySem.W.nsIn K mainGlobals "TRUE" = some (some (.ref ca_TRUE))) (v_TRUE : K.lookup ca_TRUE = some ⟨.type "tuple", od_TRUE, .seq #[.str "true" tk0_TRUE] n_TRUE, sl_TRUE⟩)
    {ca_FALSE : Addr} {od_FALSE : Option Addr} {n_FALSE : Nat} {sl_FALSE : Array (Option Value)} {tk0_FALSE : Tok} (g_FALSE : PySem.W.nsIn K mainGlobals "FALSE" = some (some (.ref ca_FALSE))) (v_FALSE : K.lookup ca_FALSE = some ⟨.type "tuple", od_FALSE, .seq #[.str "false" tk0_FALSE] n_FALSE, sl_FALSE⟩)
    {ca_NONE : Addr} {od_NONE : Option Addr} {n_NONE : Nat} {sl_NONE : Array (Option Value)} {tk0_NONE : Tok} (g_NONE : PySem.W.nsIn K mainGlobals "NONE" = some (some (.ref ca_NONE))) (v_NONE : K.lookup ca_NONE = some ⟨.type "tuple", od_NONE, .seq #[.str "none" tk0_NONE] n_NONE, sl_NONE⟩)
    {tk_GREATEST : Tok} (g_GREATEST : PySem.W.nsIn K mainGlobals "GREATEST" = some (some (.int 1000000000 tk_GREATEST)))
    {CStanding : Addr} {fStanding_init : Addr} {odStanding_init anStanding_init : Option Addr} {slStanding_init : Array (Option Value)} {ocStanding_init kVStanding_init dcStanding_init pmStanding_init cdStanding_init ctStanding_init : Value} {fStanding_eq : Addr} {odStanding_eq anStanding_eq : Option Addr} {slStanding_eq : Array (Option Value)} {ocStanding_eq kVStanding_eq dcStanding_eq pmStanding_eq cdStanding_eq ctStanding_eq : Value}  {fRE cRE PRE : Addr} {odRE anRE : Option Addr} {slRE : Array (Option Value)} {ocRE kVRE dcRE pmRE ctRE : Value}
    (hnG : PySem.W.specialIn K (.builtin "object.__class__") "__get__" = some (some (.builtin "getset_descriptor.__get__")))
    (htG : PySem.W.takesIn K (.builtin "object.__class__") = some true)
    (aStanding : PySem.W.nsIn K mainGlobals "Standing" = some (some (.ref CStanding)))
    (pgStanding : PySem.W.plainGet K CStanding Str.empty = true)
    (hdStanding : PySem.W.hasDictIn K CStanding = true)
    (poStanding : PySem.W.plainOver K CStanding = true)
    (saStanding : PySem.W.findIn K (.ref CStanding) "__setattr__" = some (some (.builtin "object.__setattr__")))
    (mkStanding : PySem.W.makesIn K CStanding = true)
    (kcStanding : PySem.W.keepIn K (.ref CStanding) = true)
    (haStanding : PySem.W.findIn K (.ref CStanding) "__class__" = some (some (.builtin "object.__class__")))
    (hmStanding : PySem.W.mroIn K CStanding (.type "object") = some true)
    (noStanding_callee : PySem.W.findIn K (.ref CStanding) "callee" = some none)
    (noStanding_handed : PySem.W.findIn K (.ref CStanding) "handed" = some none)
    (noStanding_frames : PySem.W.findIn K (.ref CStanding) "frames" = some none)
    (noStanding_things : PySem.W.findIn K (.ref CStanding) "things" = some none)
    (noStanding_born : PySem.W.findIn K (.ref CStanding) "born" = some none)
    (noStanding_calls : PySem.W.findIn K (.ref CStanding) "calls" = some none)
    (noStanding_asked : PySem.W.findIn K (.ref CStanding) "asked" = some none)
    (noStanding_shown : PySem.W.findIn K (.ref CStanding) "shown" = some none)
    (gStanding_init : PySem.W.findIn K (.ref CStanding) "__init__" = some (some (.ref fStanding_init)))
    (jStanding_init : PySem.W.isFn K (.ref fStanding_init) = true)
    (lStanding_init : K.lookup fStanding_init = some ⟨ocStanding_init, odStanding_init, .func (PySem.W.fnOf "__init__" "Standing.__init__" (defArgs s_SI) (defBody s_SI) (defScope s_SI) .none kVStanding_init dcStanding_init pmStanding_init anStanding_init cdStanding_init ctStanding_init), slStanding_init⟩)
    (cStanding_init : PySem.W.codeIn K cdStanding_init "Standing.__init__" = true)
    (kStanding_init : PySem.W.keepIn K (.ref fStanding_init) = true)
    (gStanding_eq : PySem.W.findIn K (.ref CStanding) "__eq__" = some (some (.ref fStanding_eq)))
    (jStanding_eq : PySem.W.isFn K (.ref fStanding_eq) = true)
    (lStanding_eq : K.lookup fStanding_eq = some ⟨ocStanding_eq, odStanding_eq, .func (PySem.W.fnOf "__eq__" "Standing.__eq__" (defArgs s_SE) (defBody s_SE) (defScope s_SE) .none kVStanding_eq dcStanding_eq pmStanding_eq anStanding_eq cdStanding_eq ctStanding_eq), slStanding_eq⟩)
    (cStanding_eq : PySem.W.codeIn K cdStanding_eq "Standing.__eq__" = true)
    (kStanding_eq : PySem.W.keepIn K (.ref fStanding_eq) = true)
    (aRE : PySem.W.nsIn K mainGlobals "reached" = some (some (.ref fRE)))
    (lRE : K.lookup fRE = some ⟨ocRE, odRE, .func (PySem.W.fnOf "reached" "reached" (defArgs s_p_reached) (defBody s_p_reached) (defScope s_p_reached) .none kVRE dcRE pmRE anRE (.ref cRE) ctRE), slRE⟩)
    (dRE : PySem.W.codeIn K (.ref cRE) "reached" = true)
    (kRE : PySem.W.keepIn K (.ref fRE) = true)
    (hRE : PySem.W.codeHdIn K cRE PRE = true)
    (oRE : K.lookup PRE = none)
    (eRE : h.get? PRE = some { cls := .none, data := .fields #[] })
    : ∃ (cN P : Addr) (fd : FuncData), h.get? P = some { cls := .none, data := .fields #[] } ∧ K.lookup P = none ∧ PySem.W.codeHdIn K cN P = true ∧ (∀ (s : Shared) (v : Value), BindsTo s fd ⟨[v], []⟩ [("_law_script", v)]) ∧ ∀ base : Heap, K.In base → base.Ns mainGlobals mg → TabB base mg cN P → LawAt l.prog w K mg base 7 fa fd ["_law_script"] (spLaw K [(P, qL)]) := by
  have e := hfa.symm.trans (PySem.W.mg_of X G a22)
  cases e
  have T : Txt mg := ⟨PySem.W.mg_none_of X G z_abs, PySem.W.mg_none_of X G z_dict, PySem.W.mg_none_of X G z_enumerate, PySem.W.mg_none_of X G z_int, PySem.W.mg_none_of X G z_isinstance, PySem.W.mg_none_of X G z_len, PySem.W.mg_none_of X G z_list, PySem.W.mg_none_of X G z_range, PySem.W.mg_none_of X G z_repr, PySem.W.mg_none_of X G z_sorted, PySem.W.mg_none_of X G z_str, PySem.W.mg_none_of X G z_tuple⟩
  have D_mix := at_mk (st := s_l_mix) (ps := ["_law_number", "_law_turn"]) X G a0 l0 c0 k0 fun _ _ _ _ _ _ us hl => match us, hl with | [_, _], _ => rfl
  have D_hand := at_mk (st := s_l_hand) (ps := ["_law_script"]) X G a1 l1 c1 k1 fun _ _ _ _ _ _ us hl => match us, hl with | [_], _ => rfl
  have D_draw := at_mk (st := s_l_draw) (ps := ["_law_hand_here", "_law_many"]) X G a2 l2 c2 k2 fun _ _ _ _ _ _ us hl => match us, hl with | [_, _], _ => rfl
  have D_pick := at_mk (st := s_l_pick) (ps := ["_law_hand_here", "_law_things"]) X G a3 l3 c3 k3 fun _ _ _ _ _ _ us hl => match us, hl with | [_, _], _ => rfl
  have D_rowof := at_mk (st := s_p_row_of) (ps := ["thing"]) X G a4 l4 c4 k4 fun _ _ _ _ _ _ us hl => match us, hl with | [_], _ => rfl
  have D_worths := at_mk (st := s_p_worths_of) (ps := ["thing"]) X G a5 l5 c5 k5 fun _ _ _ _ _ _ us hl => match us, hl with | [_], _ => rfl
  have D_bin := at_mk (st := s_p_births_in) (ps := ["worths"]) X G a6 l6 c6 k6 fun _ _ _ _ _ _ us hl => match us, hl with | [_], _ => rfl
  have D_bof := at_mk (st := s_p_births_of) (ps := ["thing"]) X G a7 l7 c7 k7 fun _ _ _ _ _ _ us hl => match us, hl with | [_], _ => rfl
  have D_refs := at_mk (st := s_l_refs) (ps := ["_law_value"]) X G a8 l8 c8 k8 fun _ _ _ _ _ _ us hl => match us, hl with | [_], _ => rfl
  have D_named := at_mk (st := s_l_named) (ps := ["_law_thing_here"]) X G a9 l9 c9 k9 fun _ _ _ _ _ _ us hl => match us, hl with | [_], _ => rfl
  have D_by := at_mk (st := s_p_reached_by) (ps := ["callee", "handed", "frames", "thing_of"]) X G a10 l10 c10 k10 fun _ _ _ _ _ _ us hl => match us, hl with | [_, _, _, _], _ => rfl
  have D_value := at_mk (st := s_p_is_value) (ps := ["thing"]) X G a11 l11 c11 k11 fun _ _ _ _ _ _ us hl => match us, hl with | [_], _ => rfl
  have D_whole := at_mk (st := s_p_is_whole) (ps := ["thing"]) X G a12 l12 c12 k12 fun _ _ _ _ _ _ us hl => match us, hl with | [_], _ => rfl
  have D_some := at_mk (st := s_l_some_value) (ps := ["_law_hand_here", "_law_kinds"]) X G a13 l13 c13 k13 fun _ _ _ _ _ _ us hl => match us, hl with | [_, _], _ => rfl
  have D_values := at_mk (st := s_l_values) (ps := ["_law_hand_here", "_law_kinds", "_law_many"]) X G a14 l14 c14 k14 fun _ _ _ _ _ _ us hl => match us, hl with | [_, _, _], _ => rfl
  have D_frames := at_mk (st := s_l_frames) (ps := ["_law_hand_here", "_law_kinds", "_law_many"]) X G a15 l15 c15 k15 fun _ _ _ _ _ _ us hl => match us, hl with | [_, _, _], _ => rfl
  have D_road := at_mk (st := s_l_road) (ps := ["_law_hand_here", "_law_kinds"]) X G a16 l16 c16 k16 fun _ _ _ _ _ _ us hl => match us, hl with | [_, _], _ => rfl
  have D_thing := at_mk (st := s_l_thing) (ps := ["_law_hand_here", "_law_kinds", "_law_kind"]) X G a17 l17 c17 k17 fun _ _ _ _ _ _ us hl => match us, hl with | [_, _, _], _ => rfl
  have D_due := at_mk (st := s_l_due) (ps := ["_law_callee", "_law_handed", "_law_frames_here", "_law_things"]) X G a18 l18 c18 k18 fun _ _ _ _ _ _ us hl => match us, hl with | [_, _, _, _], _ => rfl
  have D_changed := at_mk (st := s_l_changed) (ps := ["_law_hand_here", "_law_fields"]) X G a19 l19 c19 k19 fun _ _ _ _ _ _ us hl => match us, hl with | [_, _], _ => rfl
  have D_standing := at_mk (st := s_l_standing) (ps := ["_law_fields"]) X G a20 l20 c20 k20 fun _ _ _ _ _ _ us hl => match us, hl with | [_], _ => rfl
  have D_forms := at_mk (st := s_l_forms) (ps := ["_law_hand_here"]) X G a21 l21 c21 k21 fun _ _ _ _ _ _ us hl => match us, hl with | [_], _ => rfl
  refine ⟨cRE, PRE, PySem.W.fnOf "law" "law" (defArgs s_law) (defBody s_law) (defScope s_law) .none kV22 dc22 pm22 an22 cd22 ct22, eRE, oRE, hRE, fun s v => .of_eq rfl, fun base _ _ TB => ?_⟩
  have t_Standing : ClsT K mg "Standing" CStanding namesS := ⟨⟨⟨pgStanding, hdStanding, poStanding, saStanding⟩, haStanding, hnG, htG, hmStanding, kit_self⟩, PySem.W.mg_of X G aStanding, (all_cons noStanding_callee (all_cons noStanding_handed (all_cons noStanding_frames (all_cons noStanding_things (all_cons noStanding_born (all_cons noStanding_calls (all_cons noStanding_asked (all_cons noStanding_shown all_nil))))))))⟩
  have F_Standing_init := fun_mk (st := s_SI) lStanding_init cStanding_init kStanding_init
  have b_Standing_init := F_Standing_init.binds (ps := ["self", "callee", "handed", "frames", "things", "born", "calls", "asked", "shown"]) fun _ _ _ _ _ _ us hl => match us, hl with | [_, _, _, _, _, _, _, _, _], _ => rfl
  have mk_Standing : L2.Mk K CStanding fStanding_init := ⟨mkStanding, gStanding_init, jStanding_init, kcStanding⟩
  have F_Standing_eq := fun_mk (st := s_SE) lStanding_eq cStanding_eq kStanding_eq
  have b_Standing_eq := F_Standing_eq.binds (ps := ["self", "other"]) fun _ _ _ _ _ _ us hl => match us, hl with | [_, _], _ => rfl
  have U : Glb K mg := ⟨⟨_, PySem.W.mg_of X G g_TRUE, fun H => .inr ⟨_, _, _, v_TRUE, rfl, rfl, (show 1 ≤ sizeLine by decide), .cons ⟨_, rfl⟩ .nil⟩⟩, ⟨_, PySem.W.mg_of X G g_FALSE, fun H => .inr ⟨_, _, _, v_FALSE, rfl, rfl, (show 1 ≤ sizeLine by decide), .cons ⟨_, rfl⟩ .nil⟩⟩, ⟨_, PySem.W.mg_of X G g_NONE, fun H => .inr ⟨_, _, _, v_NONE, rfl, rfl, (show 1 ≤ sizeLine by decide), .cons ⟨_, rfl⟩ .nil⟩⟩, ⟨_, PySem.W.mg_of X G g_GREATEST⟩⟩
  have c1 := ok_mix (P := l.prog) (w := w) (base := base) T D_mix
  have c2 := ok_draw T c1 D_draw
  have c3 := ok_pick T c2 D_pick
  have c4 := ok_births_in (P := l.prog) (w := w) (K := K) (mg := mg) (base := base) T D_bin
  have c5 := ok_births_of T c4 (ok_row_of D_rowof) (ok_worths_of D_worths) D_bof
  have c6 := ok_l_refs (P := l.prog) (w := w) (K := K) (mg := mg) (base := base) T D_refs
  have c7 := ok_l_named T c6 D_named
  have cb := ok_reached_by T c4 c5 D_by
  have re : Cl l.prog w K mg base 4 "reached" (spReached K [(PRE, qL)]) := ⟨_, _, _, ok_reached lRE dRE TB cb, PySem.W.mg_of X G aRE, kRE, (fun_mk (st := s_p_reached) lRE dRE kRE).binds fun _ _ _ _ _ _ us hl => match us, hl with | [_, _, _, _], _ => rfl⟩
  have mkS : MkC l.prog w K mg base 1 "Standing" CStanding (spIni CStanding namesS) := ⟨_, _, _, ok_SI F_Standing_init t_Standing, mk_Standing, t_Standing.mg, b_Standing_init⟩
  have wh := ok_is_whole (P := l.prog) (w := w) (K := K) (mg := mg) (base := base) T (PySem.W.mg_none_of X G z_bool) D_whole
  have va := ok_is_value T T.str U wh D_value
  have sv := ok_some_value T c2 c3 D_some
  have vs := ok_values T c2 sv D_values
  have fr := ok_frames T c2 c3 D_frames
  have rd := ok_road c2 fr D_road
  exact ok_law T ⟨ok_hand T D_hand, c2, c3, sv, vs, fr, ok_thing c2 c3 sv vs fr rd D_thing, ok_l_due T c6 c7 D_due, ok_changed T c2 D_changed, ok_l_standing mkS D_standing, ok_forms U c2 va D_forms, re,
    ⟨_, _, _, ok_SE T F_Standing_eq t_Standing, gStanding_eq, jStanding_eq, b_Standing_eq⟩, t_Standing⟩ (fun_mk (st := s_law) l22 c22 k22)
theorem walk {l : PySem.W.OpenLaw} {q : Program} {loose : List Str} {XP : (Str → Option Value) → Heap → Prop} {YP : World → Heap → Prop} {d : DefRec} {K : Params → PySem.W.Frag} (hn : l.most = some 63) (hdf : d.params.defaults = [])
    (hY : ∀ (w : World) (h : Heap), YP w h → (K w.params).In h)
    (F : ∀ (w : World) (mg : Str → Option Value) (fa : Addr) (h : Heap), YP w h → (K w.params).In h → h.Ns mainGlobals mg → mg d.name = some (.ref fa) →
      ∃ (cN P : Addr) (fd : FuncData), h.get? P = some { cls := .none, data := .fields #[] } ∧ (K w.params).lookup P = none ∧ PySem.W.codeHdIn (K w.params) cN P = true ∧ (∀ (s : Shared) (v : Value), BindsTo s fd ⟨[v], []⟩ [("_law_script", v)]) ∧
        ∀ base : Heap, (K w.params).In base → base.Ns mainGlobals mg → TabB base mg cN P → LawAt l.prog w (K w.params) mg base 7 fa fd ["_law_script"] (spLaw (K w.params) [(P, qL)])) :
    PySem.W.WalkO q loose XP YP l.row.toRowW d [] (fun f vs => PySem.call f vs) := by
  refine walk_lawT (n := 63) (k := 7) (x := "_law_script") hn (by decide) hdf ⟨rfl, by decide, by decide⟩ hY (fun w mg fa h Y KX G hmg => ?_)
  obtain ⟨cN, P, fd, e1, e2, e3, e4, e5⟩ := F w mg fa h Y KX G hmg
  refine ⟨cN, P, fd, spLaw (K w.params) [(P, qL)], e1, e2, PySem.W.codeHd_of_K KX e3, e4, fun H a ns hl hT hS => ⟨a, ns, rfl, hS, hl, fun p hp => ?_, fun _ => rfl⟩, e5⟩
  rw [List.mem_singleton.mp hp]
  exact TabS.nil hT
end K06


open PySem PySem.W PyProof.Rows in
set_option maxRecDepth 100000 in
set_option maxHeartbeats 0 in
theorem PySem.Challenge.cw_goonagain_k06_what_a_standing_reaches_holds : PySem.Challenge.rw_goonagain_k06_what_a_standing_reaches.Holds := by
  w_on; o_law; k_head; (case hw => w_witness2)
  k_fill
  refine K06.walk (l := PySem.Challenge.rw_goonagain_k06_what_a_standing_reaches) rfl rfl (fun w h Y => PySem.W.km_in_of Y) ?F
  case F =>
    intro w mg fa h Y KX G hmg
    refine' K06.all_mk KX G hmg ?a0 ?l0 ?c0 ?k0 ?a1 ?l1 ?c1 ?k1 ?a2 ?l2 ?c2 ?k2 ?a3 ?l3 ?c3 ?k3 ?a4 ?l4 ?c4 ?k4 ?a5 ?l5 ?c5 ?k5 ?a6 ?l6 ?c6 ?k6 ?a7 ?l7 ?c7 ?k7 ?a8 ?l8 ?c8 ?k8 ?a9 ?l9 ?c9 ?k9 ?a10 ?l10 ?c10 ?k10 ?a11 ?l11 ?c11 ?k11 ?a12 ?l12 ?c12 ?k12 ?a13 ?l13 ?c13 ?k13 ?a14 ?l14 ?c14 ?k14 ?a15 ?l15 ?c15 ?k15 ?a16 ?l16 ?c16 ?k16 ?a17 ?l17 ?c17 ?k17 ?a18 ?l18 ?c18 ?k18 ?a19 ?l19 ?c19 ?k19 ?a20 ?l20 ?c20 ?k20 ?a21 ?l21 ?c21 ?k21 ?a22 ?l22 ?c22 ?k22 ?z_abs ?z_dict ?z_enumerate ?z_int ?z_isinstance ?z_len ?z_list ?z_range ?z_repr ?z_sorted ?z_str ?z_tuple ?z_bool ?g_TRUE ?v_TRUE ?g_FALSE ?v_FALSE ?g_NONE ?v_NONE ?g_GREATEST ?hnG ?htG ?aStanding ?pgStanding ?hdStanding ?poStanding ?saStanding ?mkStanding ?kcStanding ?haStanding ?hmStanding ?noStanding_callee ?noStanding_handed ?noStanding_frames ?noStanding_things ?noStanding_born ?noStanding_calls ?noStanding_asked ?noStanding_shown ?gStanding_init ?jStanding_init ?lStanding_init ?cStanding_init ?kStanding_init ?gStanding_eq ?jStanding_eq ?lStanding_eq ?cStanding_eq ?kStanding_eq ?aRE ?lRE ?dRE ?kRE ?hRE ?oRE ?eRE
    (case a0 => k_is)
    (case l0 => k_is)
    (case c0 => k_is)
    (case k0 => k_is)
    (case a1 => k_is)
    (case l1 => k_is)
    (case c1 => k_is)
    (case k1 => k_is)
    (case a2 => k_is)
    (case l2 => k_is)
    (case c2 => k_is)
    (case k2 => k_is)
    (case a3 => k_is)
    (case l3 => k_is)
    (case c3 => k_is)
    (case k3 => k_is)
    (case a4 => k_is)
    (case l4 => k_is)
    (case c4 => k_is)
    (case k4 => k_is)
    (case a5 => k_is)
    (case l5 => k_is)
    (case c5 => k_is)
    (case k5 => k_is)
    (case a6 => k_is)
    (case l6 => k_is)
    (case c6 => k_is)
    (case k6 => k_is)
    (case a7 => k_is)
    (case l7 => k_is)
    (case c7 => k_is)
    (case k7 => k_is)
    (case a8 => k_is)
    (case l8 => k_is)
    (case c8 => k_is)
    (case k8 => k_is)
    (case a9 => k_is)
    (case l9 => k_is)
    (case c9 => k_is)
    (case k9 => k_is)
    (case a10 => k_is)
    (case l10 => k_is)
    (case c10 => k_is)
    (case k10 => k_is)
    (case a11 => k_is)
    (case l11 => k_is)
    (case c11 => k_is)
    (case k11 => k_is)
    (case a12 => k_is)
    (case l12 => k_is)
    (case c12 => k_is)
    (case k12 => k_is)
    (case a13 => k_is)
    (case l13 => k_is)
    (case c13 => k_is)
    (case k13 => k_is)
    (case a14 => k_is)
    (case l14 => k_is)
    (case c14 => k_is)
    (case k14 => k_is)
    (case a15 => k_is)
    (case l15 => k_is)
    (case c15 => k_is)
    (case k15 => k_is)
    (case a16 => k_is)
    (case l16 => k_is)
    (case c16 => k_is)
    (case k16 => k_is)
    (case a17 => k_is)
    (case l17 => k_is)
    (case c17 => k_is)
    (case k17 => k_is)
    (case a18 => k_is)
    (case l18 => k_is)
    (case c18 => k_is)
    (case k18 => k_is)
    (case a19 => k_is)
    (case l19 => k_is)
    (case c19 => k_is)
    (case k19 => k_is)
    (case a20 => k_is)
    (case l20 => k_is)
    (case c20 => k_is)
    (case k20 => k_is)
    (case a21 => k_is)
    (case l21 => k_is)
    (case c21 => k_is)
    (case k21 => k_is)
    (case a22 => k_is)
    (case l22 => k_is)
    (case c22 => k_is)
    (case k22 => k_is)
    (case z_abs => k_is)
    (case z_dict => k_is)
    (case z_enumerate => k_is)
    (case z_int => k_is)
    (case z_isinstance => k_is)
    (case z_len => k_is)
    (case z_list => k_is)
    (case z_range => k_is)
    (case z_repr => k_is)
    (case z_sorted => k_is)
    (case z_str => k_is)
    (case z_tuple => k_is)
    (case z_bool => k_is)
    (case g_TRUE => k_is)
    (case v_TRUE => k_is)
    (case g_FALSE => k_is)
    (case v_FALSE => k_is)
    (case g_NONE => k_is)
    (case v_NONE => k_is)
    (case g_GREATEST => k_is)
    (case hnG => k_is)
    (case htG => k_is)
    (case aStanding => k_is)
    (case pgStanding => k_is)
    (case hdStanding => k_is)
    (case poStanding => k_is)
    (case saStanding => k_is)
    (case mkStanding => k_is)
    (case kcStanding => k_is)
    (case haStanding => k_is)
    (case hmStanding => k_is)
    (case noStanding_callee => k_is)
    (case noStanding_handed => k_is)
    (case noStanding_frames => k_is)
    (case noStanding_things => k_is)
    (case noStanding_born => k_is)
    (case noStanding_calls => k_is)
    (case noStanding_asked => k_is)
    (case noStanding_shown => k_is)
    (case gStanding_init => k_is)
    (case jStanding_init => k_is)
    (case lStanding_init => k_is)
    (case cStanding_init => k_is)
    (case kStanding_init => k_is)
    (case gStanding_eq => k_is)
    (case jStanding_eq => k_is)
    (case lStanding_eq => k_is)
    (case cStanding_eq => k_is)
    (case kStanding_eq => k_is)
    (case aRE => k_is)
    (case lRE => k_is)
    (case dRE => k_is)
    (case kRE => k_is)
    (case eRE => exact PySem.W.km_tabs_of Y _ List.mem_cons_self)
    (case hRE => first | kernel_rfl | rfl)
    (case oRE => first | kernel_rfl | rfl)
