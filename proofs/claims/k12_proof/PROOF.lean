import PyProof.Rows.All
import Wide.All
import OpenK.AllK
import Wide.FinOn
import HandS.ForMost
import HandS.Codes
import HandS.Wide
import HandS.TupAny
import HandS.Conv
import HandS.RevRange
import HandS.SortInts
import HandS.RaiseMore
import HandS.Style
import HandS.Walk
import HandS.Zip
import HandS.More
import KE.GoesEnum
import KE.GoesMore
import KE.KDictList
import KE.KDictSum
import HandS.IsInst
import HandS.Deep
import HandS.Exc
import HandS.ExcOwn
import HandS.ExcIs
import HandS.ExcField
import HandS.WordsExc
import HandS.Nested
import HandS.Words
import HandS.TupMul
import PyProof.Rows.SortShellAny
import HandS.ExcInit
import HandS.ExcValue
import HandS.OwnEq
import HandS.TupLen
import HandS.Strs
import HandS.Defaults
import HandS.EndTab
import KE.KNestM
import PySem.Challenge.RW_goonagain_k12_bounces_cut_and_gone_on
set_option Elab.async false
set_option maxRecDepth 100000
set_option maxHeartbeats 4000000
/-! common part: what a call keeps, data, repr, the hand of draws -/
namespace Cm
open PySem L2

/-! ### what is kept but at the lists M -/
structure Kp (M : Addr → Prop) (H H' : Hp) : Prop where
  st : ∀ a o, ¬ M a → H a = some o → H' a = some o
  l1 : ∀ a, M a → ∃ xs, H a = some (.lst xs)
  l2 : ∀ a, M a → ∃ xs, H' a = some (.lst xs)
theorem Kp.trans {M : Addr → Prop} {H H1 H2 : Hp} (a : Kp M H H1) (b : Kp M H1 H2) : Kp M H H2 :=
  ⟨fun x o n e => b.st x o n (a.st x o n e), a.l1, b.l2⟩
theorem Kp.of_same {M : Addr → Prop} {H H' : Hp} (h : ∀ a, M a → ∃ xs, H a = some (.lst xs)) (s : Same H H') : Kp M H H' :=
  ⟨fun x o _ e => s x o e, h, fun a m => let ⟨xs, e⟩ := h a m; ⟨xs, s a _ e⟩⟩
theorem Kp.refl {M : Addr → Prop} {H : Hp} (h : ∀ a, M a → ∃ xs, H a = some (.lst xs)) : Kp M H H := .of_same h (Same.refl H)
theorem same_new {H : Hp} {p : Addr} {o : HO} (h : H p = Option.none) : Same H (upd H p o) := fun b u e => by
  rw [upd_ne (ne_of_none e h)]
  exact e
theorem Kp.new {M : Addr → Prop} {H : Hp} (h : ∀ a, M a → ∃ xs, H a = some (.lst xs)) {p : Addr} {o : HO} (hp : H p = Option.none) : Kp M H (upd H p o) :=
  .of_same h (same_new hp)
theorem Kp.put {M : Addr → Prop} {H : Hp} (h : ∀ a, M a → ∃ xs, H a = some (.lst xs)) {p : Addr} {ys : List V} (hp : M p) : Kp M H (upd H p (.lst ys)) :=
  ⟨fun x o n e => by
    rw [upd_ne (show x ≠ p by rintro rfl; exact n hp)]
    exact e, h, fun a m => by
    by_cases q : a = p
    · subst q
      exact ⟨ys, upd_same⟩
    · rw [upd_ne q]
      exact h a m⟩
theorem Kp.wider {M N : Addr → Prop} {H H' : Hp} (k : Kp M H H') (h : ∀ a, M a → N a) (l : ∀ a, N a → ∃ xs, H a = some (.lst xs)) : Kp N H H' :=
  ⟨fun x o n e => k.st x o (fun m => n (h x m)) e, l, fun a m => by
    by_cases q : M a
    · exact k.l2 a q
    · obtain ⟨xs, e⟩ := l a m
      exact ⟨xs, k.st a _ q e⟩⟩
theorem Kp.tup {M : Addr → Prop} {K : PySem.W.Frag} {H H' : Hp} {a : Addr} {xs : List V} (k : Kp M H H') (h : SqT K H a xs) : SqT K H' a xs := by
  have no : ∀ o, H a = some o → (∀ ys, o ≠ .lst ys) → ¬ M a := fun o e n m => by
    obtain ⟨ys, e2⟩ := k.l1 a m
    rw [e] at e2
    exact n ys (Option.some.inj e2)
  rcases h with (h | ⟨o, h⟩) | h
  · exact .inl (.inl (k.st _ _ (no _ h fun _ z => nomatch z) h))
  · exact .inl (.inr ⟨o, k.st _ _ (no _ h fun _ z => nomatch z) h⟩)
  · exact .inr h
theorem Kp.free {M : Addr → Prop} {H H' : Hp} {p : Addr} (k : Kp M H H') (h : H' p = Option.none) : H p = Option.none := by
  cases e : H p with
  | none => rfl
  | some o =>
    by_cases q : M p
    · obtain ⟨xs, e2⟩ := k.l2 p q
      rw [h] at e2
      cases e2
    · have := k.st p o q e
      rw [h] at this
      cases this
theorem Kp.m_of {M : Addr → Prop} {H H' : Hp} {p : Addr} (k : Kp M H H') (h : H p = Option.none) : ¬ M p := fun m => by
  obtain ⟨xs, e⟩ := k.l1 p m
  rw [h] at e
  cases e

/-! ### data -/
mutual
/-- no list, no dict in it -/
def flatD : PyData → Bool
  | .list _ => false
  | .dict _ => false
  | .tuple xs => flatDs xs
  | _ => true
def flatDs : List PyData → Bool
  | [] => true
  | x :: xs => flatD x && flatDs xs
end
mutual
theorem dp_keep {K : PySem.W.Frag} {H H' : Hp} (k : ∀ a xs, SqT K H a xs → SqT K H' a xs) : ∀ (d : PyData) (v : V), flatD d = true → Dp K H v d → Dp K H' v d
  | .none, _, _, h => by cases h; exact .non
  | .bool _, _, _, h => by cases h; exact .bl _
  | .int _, _, _, h => by cases h; exact .int _
  | .str _, _, _, h => by cases h; exact .str _
  | .list _, _, f, _ => by simp [flatD] at f
  | .dict _, _, f, _ => by simp [flatD] at f
  | .tuple ds, _, f, h => by
    cases h with
    | tup hs ha => exact .tup (k _ _ hs) (dps_keep k ds _ (by simpa [flatD] using f) ha)
theorem dps_keep {K : PySem.W.Frag} {H H' : Hp} (k : ∀ a xs, SqT K H a xs → SqT K H' a xs) : ∀ (ds : List PyData) (vs : List V), flatDs ds = true → DpAll K H vs ds → DpAll K H' vs ds
  | [], _, _, h => by cases h; exact .nil
  | d :: ds, _, f, h => by
    cases h with
    | cons h1 h2 =>
      have f' : flatD d = true ∧ flatDs ds = true := by simpa [flatDs] using f
      exact .cons (dp_keep k d _ f'.1 h1) (dps_keep k ds _ f'.2 h2)
end
mutual
/-- all lists in it are kept as well -/
theorem dp_same {K : PySem.W.Frag} {H H' : Hp} (s : Same H H') : ∀ (d : PyData) (v : V), Dp K H v d → Dp K H' v d
  | .none, _, h => by cases h; exact .non
  | .bool _, _, h => by cases h; exact .bl _
  | .int _, _, h => by cases h; exact .int _
  | .str _, _, h => by cases h; exact .str _
  | .dict _, _, h => by cases h
  | .list ds, _, h => by
    cases h with
    | lst hs ha => exact .lst (s.seq hs) (dps_same s ds _ ha)
  | .tuple ds, _, h => by
    cases h with
    | tup hs ha =>
      refine .tup ?_ (dps_same s ds _ ha)
      rcases hs with (h | ⟨o, h⟩) | h
      · exact .inl (.inl (s _ _ h))
      · exact .inl (.inr ⟨o, s _ _ h⟩)
      · exact .inr h
theorem dps_same {K : PySem.W.Frag} {H H' : Hp} (s : Same H H') : ∀ (ds : List PyData) (vs : List V), DpAll K H vs ds → DpAll K H' vs ds
  | [], _, h => by cases h; exact .nil
  | d :: ds, _, h => by
    cases h with
    | cons h1 h2 => exact .cons (dp_same s d _ h1) (dps_same s ds _ h2)
end
theorem DpAll.len {K : PySem.W.Frag} {H : Hp} : ∀ {vs : List V} {ds : List PyData}, DpAll K H vs ds → vs.length = ds.length
  | _, _, .nil => rfl
  | _, _, .cons _ h => congrArg (· + 1) (DpAll.len h)
theorem DpAll.at {K : PySem.W.Frag} {H : Hp} : ∀ {vs : List V} {ds : List PyData} {i : Nat} {d : PyData}, DpAll K H vs ds → ds[i]? = some d → ∃ v, vs[i]? = some v ∧ Dp K H v d
  | _, _, 0, d, .cons h _, e => by
    simp at e
    subst e
    exact ⟨_, rfl, h⟩
  | _, _, i + 1, d, .cons _ h, e => by
    obtain ⟨v, h1, h2⟩ := DpAll.at (i := i) (d := d) h (by simpa using e)
    exact ⟨v, by simpa using h1, h2⟩
theorem DpAll.atV {K : PySem.W.Frag} {H : Hp} : ∀ {vs : List V} {ds : List PyData} {i : Nat} {v : V}, DpAll K H vs ds → vs[i]? = some v → ∃ d, ds[i]? = some d ∧ Dp K H v d
  | _, _, 0, d, .cons h _, e => by
    simp at e
    subst e
    exact ⟨_, rfl, h⟩
  | _, _, i + 1, d, .cons _ h, e => by
    obtain ⟨v, h1, h2⟩ := DpAll.atV (i := i) (v := d) h (by simpa using e)
    exact ⟨v, by simpa using h1, h2⟩
theorem DpAll.snoc {K : PySem.W.Frag} {H : Hp} {v : V} {d : PyData} (h : Dp K H v d) : ∀ {vs : List V} {ds : List PyData}, DpAll K H vs ds → DpAll K H (vs ++ [v]) (ds ++ [d])
  | _, _, .nil => .cons h .nil
  | _, _, .cons a b => .cons a (DpAll.snoc h b)
theorem DpAll.app {K : PySem.W.Frag} {H : Hp} : ∀ {vs ws : List V} {ds es : List PyData}, DpAll K H vs ds → DpAll K H ws es → DpAll K H (vs ++ ws) (ds ++ es)
  | _, _, _, _, .nil, h => h
  | _, _, _, _, .cons a b, h => .cons a (DpAll.app b h)
theorem DpAll.take {K : PySem.W.Frag} {H : Hp} (n : Nat) : ∀ {vs : List V} {ds : List PyData}, DpAll K H vs ds → DpAll K H (vs.take n) (ds.take n) := by
  induction n with
  | zero => intro vs ds _; exact .nil
  | succ n ih =>
    intro vs ds h
    cases h with
    | nil => exact .nil
    | cons a b => exact .cons a (ih b)
theorem DpAll.drop {K : PySem.W.Frag} {H : Hp} (n : Nat) : ∀ {vs : List V} {ds : List PyData}, DpAll K H vs ds → DpAll K H (vs.drop n) (ds.drop n) := by
  induction n with
  | zero => intro vs ds h; exact h
  | succ n ih =>
    intro vs ds h
    cases h with
    | nil => exact .nil
    | cons a b => exact ih b
theorem DpAll.rev {K : PySem.W.Frag} {H : Hp} : ∀ {vs : List V} {ds : List PyData}, DpAll K H vs ds → DpAll K H vs.reverse ds.reverse
  | _, _, .nil => .nil
  | _, _, .cons a b => by
    rw [List.reverse_cons, List.reverse_cons]
    exact DpAll.snoc a (DpAll.rev b)
theorem dpAll_ints {K : PySem.W.Frag} {H : Hp} : ∀ ns : List Int, DpAll K H (ns.map V.int) (ns.map PyData.int)
  | [] => .nil
  | n :: ns => .cons (.int n) (dpAll_ints ns)

/-! ### repr of data -/
/-- what repr sees at a value: data of lists and tuples, or a dict of int keys whose values are data without lists -/
def Rp (K : PySem.W.Frag) (H : Hp) (x : V) (d : PyData) : Prop :=
  Dp K H x d ∨ ∃ (a : Addr) (kvs : List (Key × V)) (es : List (Int × PyData)), x = .ref a ∧ H a = some (.dK kvs) ∧ kvs.map (·.1) = es.map (fun e => Sum.inl e.1) ∧
    DpAll K H (kvs.map (·.2)) (es.map (·.2)) ∧ flatDs (es.map (·.2)) = true ∧ d = .dict (es.map fun e => (.int e.1, e.2))
mutual
/-- short leaves -/
def okD : PyData → Bool
  | .int i => decide (i.natAbs < 10 ^ 12)
  | .str x => PyData.leavesShort 13 (.str x)
  | .list xs => okDs xs
  | .tuple xs => okDs xs
  | .dict kvs => okDk kvs
  | _ => true
def okDs : List PyData → Bool
  | [] => true
  | x :: xs => okD x && okDs xs
def okDk : List (PyData × PyData) → Bool
  | [] => true
  | (k, v) :: r => okD k && okD v && okDk r
end
mutual
theorem okD_show : ∀ d : PyData, okD d = true → d.showable = true ∧ d.leavesShort 13 = true
  | .none, _ => by constructor <;> first | rfl | decide +kernel | simp [PyData.showable, PyData.leavesShort]
  | .bool b, _ => by cases b <;> constructor <;> first | rfl | decide +kernel
  | .int i, h => by
    have h' : i.natAbs < 10 ^ 12 := by simpa [okD] using h
    refine ⟨?_, ?_⟩
    · have : i.natAbs.log2 < 1920 := by
        by_cases z : i.natAbs = 0
        · rw [z]; decide
        · refine Nat.lt_of_lt_of_le ((Nat.log2_lt z).mpr (show i.natAbs < 2 ^ 64 from Nat.lt_of_lt_of_le h' (by decide))) (by decide)
      simpa [PyData.showable] using this
    · have := PyData.shown_int_le h'
      simpa [PyData.leavesShort] using this
  | .str x, h => by
    exact ⟨by simp [PyData.showable], by simpa only [okD] using h⟩
  | .list xs, h => by
    have := okDs_show xs (by simpa [okD] using h)
    exact ⟨by simpa [PyData.showable] using this.1, by simpa [PyData.leavesShort] using this.2⟩
  | .tuple xs, h => by
    have := okDs_show xs (by simpa [okD] using h)
    exact ⟨by simpa [PyData.showable] using this.1, by simpa [PyData.leavesShort] using this.2⟩
  | .dict kvs, h => by
    have := okDk_show kvs (by simpa [okD] using h)
    exact ⟨by simpa [PyData.showable] using this.1, by simpa [PyData.leavesShort] using this.2⟩
theorem okDs_show : ∀ xs : List PyData, okDs xs = true → PyData.showableAll xs = true ∧ PyData.leavesShortAll 13 xs = true
  | [], _ => ⟨by simp [PyData.showableAll], by simp [PyData.leavesShortAll]⟩
  | x :: xs, h => by
    have h' : okD x = true ∧ okDs xs = true := by simpa [okDs] using h
    have a := okD_show x h'.1
    have b := okDs_show xs h'.2
    exact ⟨by simp [PyData.showableAll, a.1, b.1], by simp [PyData.leavesShortAll, a.2, b.2]⟩
theorem okDk_show : ∀ xs : List (PyData × PyData), okDk xs = true → PyData.showableKv xs = true ∧ PyData.leavesShortKv 13 xs = true
  | [], _ => ⟨by simp [PyData.showableKv], by simp [PyData.leavesShortKv]⟩
  | (k, v) :: xs, h => by
    have h' : (okD k = true ∧ okD v = true) ∧ okDk xs = true := by simpa [okDk] using h
    have a := okD_show k h'.1.1
    have b := okD_show v h'.1.2
    have c := okDk_show xs h'.2
    exact ⟨by simp [PyData.showableKv, a.1, b.1, c.1], by simp [PyData.leavesShortKv, a.2, b.2, c.2]⟩
end
mutual
theorem no_as {h : Heap} : ∀ (d : PyData) (u : Value) (as : List Addr), flatD d = true → Reads h u d as → as = []
  | .none, _, _, _, r => by cases r; rfl
  | .bool _, _, _, _, r => by cases r; rfl
  | .int _, _, _, _, r => by cases r; rfl
  | .str _, _, _, _, r => by cases r; rfl
  | .list _, _, _, f, _ => by simp [flatD] at f
  | .dict _, _, _, f, _ => by simp [flatD] at f
  | .tuple ds, _, _, f, r => by
    cases r with
    | tuple _ _ _ ha => exact no_ass ds _ _ (by simpa [flatD] using f) ha
theorem no_ass {h : Heap} : ∀ (ds : List PyData) (us : List Value) (as : List Addr), flatDs ds = true → ReadsAll h us ds as → as = []
  | [], _, _, _, r => by cases r; rfl
  | d :: ds, _, _, f, r => by
    have f' : flatD d = true ∧ flatDs ds = true := by simpa [flatDs] using f
    cases r with
    | cons r1 r2 => rw [no_as d _ _ f'.1 r1, no_ass ds _ _ f'.2 r2]; rfl
end
mutual
theorem dp_nodict {K : PySem.W.Frag} {H : Hp} : ∀ (d : PyData) (v : V), Dp K H v d → d.hasDict = false
  | .none, _, _ => by simp [PyData.hasDict]
  | .bool _, _, _ => by simp [PyData.hasDict]
  | .int _, _, _ => by simp [PyData.hasDict]
  | .str _, _, _ => by simp [PyData.hasDict]
  | .dict _, _, h => by cases h
  | .list ds, _, h => by
    cases h with
    | lst _ ha => simpa [PyData.hasDict] using dps_nodict ds _ ha
  | .tuple ds, _, h => by
    cases h with
    | tup _ ha => simpa [PyData.hasDict] using dps_nodict ds _ ha
theorem dps_nodict {K : PySem.W.Frag} {H : Hp} : ∀ (ds : List PyData) (vs : List V), DpAll K H vs ds → PyData.hasDictAll ds = false
  | [], _, _ => by simp [PyData.hasDictAll]
  | d :: ds, _, h => by
    cases h with
    | cons h1 h2 => simp [PyData.hasDictAll, dp_nodict d _ h1, dps_nodict ds _ h2]
end
theorem flatDs_ints : ∀ ks : List Int, flatDs (ks.map PyData.int) = true
  | [] => rfl
  | k :: ks => by simp [flatDs, flatD, flatDs_ints ks]
section
variable {X : Cx}
theorem dict_keys {prog : Program} {w : World} {h : Heap} : ∀ (es : List (Int × PyData)) (kvs : List (Key × V)) (l : List DictEntry) (vs : List (Key × Value)), kvs.map (·.1) = es.map (fun e => Sum.inl e.1) → KV kvs vs → Pairs (mixKind prog w) l vs →
    ReadsAll h (l.map (·.key)) (es.map fun e => PyData.int e.1) [] ∧ Vals (kvs.map (·.2)) (l.map (·.val))
  | [], kvs, l, vs, hk, r, p => by
    cases kvs with
    | cons a b => simp at hk
    | nil =>
      cases r
      cases p
      exact ⟨.nil, .nil⟩
  | e :: es, kvs, l, vs, hk, r, p => by
    cases kvs with
    | nil => simp at hk
    | cons a b =>
      simp only [List.map_cons, List.cons.injEq] at hk
      cases r with
      | @cons _ v _ vs' r1 r2 =>
        cases p with
        | @cons en _ l' _ p1 p2 p3 =>
          obtain ⟨q1, q2⟩ := dict_keys es b l' vs' hk.2 r2 p3
          have p1' : keyIs v.1 en.key = true := p1
          rw [← r1.1, hk.1] at p1'
          obtain ⟨t, et⟩ := Value.isInt_shape (k := e.1) (v := en.key) p1'
          refine ⟨?_, .cons ?_ q2⟩
          · rw [List.map_cons, List.map_cons, et]
            exact ReadsAll.cons (as := []) (bs := []) (Reads.int _ _) q1
          · show RelV a.2 en.val
            rw [p2]
            exact r1.2
def rRepr (K : PySem.W.Frag) : List V → Hp → VK → Prop := fun xs H Q => ∃ x d, xs = [x] ∧ Rp K H x d ∧ okD d = true ∧ d.depth ≤ 60 ∧ d.weight ≤ 2 ^ 20 ∧ Q (.str d.shown) H
theorem call_reprD (hg : X.A.guards = some []) (hu : X.A.units + 64 < cLine) : CallR X (.builtin "repr") (rRepr X.K) := by
  intro pins s σ H xs us Q I r h
  obtain ⟨x, d, rfl, hd, ok, hdep, hw, q⟩ := h
  obtain ⟨u, rfl, rx⟩ := vals1 r
  obtain ⟨hsh, hls⟩ := okD_show d ok
  have hsz : d.shown.length ≤ sizeLine := PyData.shown_fits (by decide) (by decide) hls hw
  have fin : ∀ (a : Addr) (as : List Addr), u = .ref a → Reads s.heap u d as → (d.hasDict = true → sysModules ∉ as) → wpAny (model X.prog X.w) X.A (call (.builtin "repr") [u]) (EP X pins σ Q) X.xe s := fun a as e rd no => by
    subst e
    exact repr_of_reads' rd hsh no hg (by omega) (fun _ _ e => e) (fun h' u tk k => ⟨.str _, H, I.kept k, ⟨_, rfl⟩, q⟩) hsz
  rcases hd with hd | ⟨a, kvs, es, rfl, ha, hk, hv, hf, rfl⟩
  · obtain ⟨as, rd⟩ := Dp.reads I d x u hd rx
    cases hd with
    | non => cases rx; exact P.repr_of_none ⟨.str _, H, I.tok _, ⟨_, rfl⟩, q⟩
    | bl b => cases rx; exact P.repr_of_bool ⟨.str _, H, I.tok _, ⟨_, rfl⟩, by cases b <;> exact q⟩
    | int i =>
      obtain ⟨t, rfl⟩ := rx
      exact P.repr_of_int (by simpa [PyData.showable] using hsh) ⟨.str _, H, I.tok _, ⟨_, rfl⟩, by simpa [PyData.shown] using q⟩
    | str z =>
      obtain ⟨t, rfl⟩ := rx
      exact P.repr_of_str ⟨.str _, H, I.tok _, ⟨_, rfl⟩, by simpa [PyData.shown] using q⟩ (by simpa [PyData.shown] using hsz)
    | lst hs ha =>
      have nd := dp_nodict _ _ (Dp.lst hs ha)
      cases rx
      exact fin _ as rfl rd fun z => by rw [nd] at z; cases z
    | tup hs ha =>
      have nd := dp_nodict _ _ (Dp.tup hs ha)
      cases rx
      exact fin _ as rfl rd fun z => by rw [nd] at z; cases z
  · cases rx
    obtain ⟨_, hsys, vs, rv, ob, dl, ep, e1, e2, e3, _, e5, _⟩ := (show kvs.length ≤ sizeLine ∧ (a == sysModules) = false ∧ ∃ vs, KV kvs vs ∧ s.heap.DictOf (mixKind X.prog X.w) a vs from dk_of I.hok ha)
    obtain ⟨q1, q2⟩ := dict_keys es kvs dl.toList vs hk rv e5
    obtain ⟨bs, q3⟩ := Dp.readsAll I _ _ _ hv q2
    obtain rfl := no_ass _ _ _ hf q3
    have rd : Reads s.heap (.ref a) (.dict (es.map fun e => (PyData.int e.1, e.2))) (a :: [] ++ []) :=
      .dict e1 e2.1 e3 (by rw [List.map_map]; exact q1) (by rw [List.map_map]; exact q3)
    exact fin a _ rfl rd fun _ m => by
      have : sysModules = a := by simpa using m
      rw [← this] at hsys
      simp at hsys
end
end Cm

/-! a law's call whose body may ask repr: nothing is under repr there -/
namespace Cm
open PySem L2 PySem.Spec PyProof.Rows
section
variable {P : Program} {w : World} {K : PySem.W.Frag} {mg : Str → Option Value} {base : Heap}
/-- the promise of the law's def, where no repr is under way -/
def LawAt (P : Program) (w : World) (K : PySem.W.Frag) (mg : Str → Option Value) (base : Heap) (k : Nat) (f : Addr) (fd : FuncData) (ps : List Str) (sp : Sp) : Prop :=
  ∀ (A : Around) (outer : List Env) (s : Shared) (H : Hp) (args : Args) (us : List Value) (vs : List V) (Q : VK) (E : XK),
    A.guards = some [] → Room k A → Env0 P w K mg base A outer s H → BindsTo s fd args (ps.zip us) → Vals vs us → sp vs H Q E →
      codeAny (model P w) A (.call (.ref f) args) (CR CX0 outer P w H s Q E) s
theorem lawAt_of {x : Str} {st : Stmt} {f : Addr} {fd : FuncData} {N ps : List Str} {k : Nat} {sp : Sp} (F : Fun K x x st f fd) (S : FnScope N ps (defScope st))
    (len : ∀ vs H Q E, sp vs H Q E → vs.length = ps.length)
    (hb : ∀ (cdv : Value) (A : Around) (outer : List Env) (s : Shared) (H : Hp) (vs : List V) (Q : VK) (E : XK), A.guards = some [] →
      Room k (A.deeper (envOfC x (defScope st) s.heap.objs.size f cdv)) → sp vs H Q E →
      ∃ t, PSs (cxOf CX0 P w K mg base N x (defScope st) f cdv A outer s H E).nox (defBody st) t ∧ t { nx := fun _ H' => Q .non H', rt := Q } (start N vs) H) :
    LawAt P w K mg base (k + 1) f fd ps sp := by
  intro A outer s H args us vs Q E hg hr e0 hbind rv hs
  obtain ⟨oc, od, kV, doc, pm, an, cdv, ct, osl, rfl, lk, hcd⟩ := F.ex
  have keeps : ∀ b o, base.get? b = some o → s.heap.get? b = some o := fun b o e => (e0.bs b o e).1
  have KX : K.In s.heap := e0.mod.kin.keeps keeps
  refine codeAny_call_function hr.depth (KX _ _ lk) rfl S.co S.gen rfl (PySem.W.codeRec_of KX hcd) (hbind _ _ _ _ ?_)
  refine wpAny_newFunctionEnv_cells S.kind (fun z hz => ?_) fun env he s1 xc => ?_
  · rcases S.par z.1 (List.of_mem_zip (show (z.1, z.2) ∈ ps.zip us from hz)).1 with q | q
    · exact Or.inl q
    · exact Or.inr ⟨q, PySem.W.cellsFrom_some _ _ _ (Or.inl q)⟩
  · subst he
    refine ⟨(e0.mod.nolimit.keeps keeps).keeps xc.toInCall.keep, codeAny_func ?_⟩
    obtain ⟨t, ht, hq⟩ := hb cdv A outer s H vs Q E hg (hr.deeper _) hs
    have I := inv_start (E := E) (CX := CX0) S hr.hd e0 (len _ _ _ _ hs) rv xc
    refine wpAny_mono (ht.nox.run [] s1 (start N vs) H _ I hq) (fun fl s' hz => ?_) fun e s' hz => hz
    cases fl with
    | ret u =>
      obtain ⟨v, _, H', J, r, q⟩ := hz
      exact ⟨v, H', J.os, J.bare, J.base, J.hok, r, q⟩
    | next =>
      obtain ⟨_, H', J, q⟩ := hz
      exact ⟨V.non, H', J.os, J.bare, J.base, J.hok, rfl, q⟩
    | brk =>
      obtain ⟨_, _, _, q⟩ := hz
      exact q.elim
    | cont =>
      obtain ⟨_, _, _, q⟩ := hz
      exact q.elim
end
/-- the script tracked at a: known to the object, or one of the module's own -/
def scriptH (a : Addr) (o : Obj) (ns : List Int) : Hp := fun b => if b = a then some (.frz o (.lst (ns.map V.int))) else Option.none
theorem law_goes {P : Program} {w : World} {K : PySem.W.Frag} {mg mb : Str → Option Value} {k : Nat} {fa a : Addr} {fd : FuncData} {x : Str} {sp : Sp} {s₁ : Shared} {vs : List Value} {ns : List Int}
    (KX : K.In s₁.heap) (hns : s₁.heap.Ns mainGlobals mg) (hb : s₁.heap.Ns builtinsNs mb)
    (hbb : ∀ x : Str, x ≠ "__name__" → mb x = bootBuiltins x) (hlim : s₁.heap.NoLimit) (hg : s₁.gens = #[])
    (ha : s₁.heap.get? a = some { cls := .type "list", data := .seq vs.toArray }) (hi : IntsAre vs ns) (hl : ns.length ≤ sizeLine) (hr : Room k callerA)
    (F : ∀ b : Heap, K.In b → b.Ns mainGlobals mg → LawAt P w K mg b k fa fd [x] sp)
    (hbind : ∀ (s : Shared) (u : Value), BindsTo s fd ⟨[u], []⟩ [(x, u)])
    (hsp : ∀ H : Hp, Only H → SqL K H a (ns.map V.int) → sp [.ref a] H (fun v _ => v = .bl true) fun _ _ _ => False) :
    codeAny (model P w) callerA (.call (.ref fa) ⟨[.ref a], []⟩)
      (fun r s' => r = .ok (.ret (.bool true)) ∧ OldK s₁.heap s'.heap ∧ s'.os = s₁.os ∧ AllBare s'.gens) s₁ := by
  have rv := vals_ints hi
  have main : ∀ H : Hp, Only H → SqL K H a (ns.map V.int) → HOk P w H s₁.heap → (∀ b, H b ≠ Option.none → b = a ∧ K.lookup a = Option.none) →
      codeAny (model P w) callerA (.call (.ref fa) ⟨[.ref a], []⟩)
        (fun r s' => r = .ok (.ret (.bool true)) ∧ OldK s₁.heap s'.heap ∧ s'.os = s₁.os ∧ AllBare s'.gens) s₁ := by
    intro H hO hS hok hA
    have free_ns : ∀ {b : Addr} {o : Obj} {es : Array DictEntry} {ep : Nat}, s₁.heap.get? b = some o → o.data = .dict es ep → H b = Option.none := fun {b o es ep} e d => by
      by_cases q : H b = Option.none
      · exact q
      · obtain ⟨rfl, _⟩ := hA b q
        rw [ha] at e
        cases e
        cases d
    have ns_of : ∀ {b : Addr} {m : Str → Option Value}, s₁.heap.Ns b m → (hidT s₁.heap H).Ns b m := fun h => by
      obtain ⟨o, es, ep, e, d, r⟩ := h
      exact ⟨o, es, ep, hidT_get e (free_ns e d), d, r⟩
    have kin : K.In (hidT s₁.heap H) := fun b o e => hidT_get (KX b o e) (by
      by_cases q : H b = Option.none
      · exact q
      · obtain ⟨rfl, q2⟩ := hA b q
        rw [q2] at e
        cases e)
    obtain ⟨mc, l1, l2⟩ := hlim
    have e0 : Env0 P w K mg (hidT s₁.heap H) callerA [] s₁ H :=
      { frames := rfl, mod := ⟨kin, ns_of hns, ⟨mb, ns_of hb, hbb⟩, ⟨mc, ns_of l1, l2⟩⟩, bs := fun b o e => of_hidT e, bsz := Nat.le_of_eq (hidT_size _ _),
        funs := trivial, frf := fun b z => absurd (show b ∈ ([] : List Addr) from z) (by simp), hok := hok, bare := .of_eq hg }
    have run := F _ kin (ns_of hns) callerA [] s₁ H ⟨[.ref a], []⟩ [.ref a] [.ref a] _ _ rfl hr e0 (hbind s₁ (.ref a)) (.cons rfl .nil) (hsp H hO hS)
    refine codeAny_mono run fun r s' h => ?_
    rcases r with e | fl
    · exact False.elim h
    · cases fl with
      | ret u =>
        obtain ⟨v, H', os, bare, un, hok', r', q⟩ := h
        have q' : v = .bl true := q
        subst q'
        have eu : u = Value.bool true := r'
        subst eu
        refine ⟨rfl, OldK.of_keep fun b o e => ?_, os, bare⟩
        by_cases q : H b = Option.none
        · exact un.keep b o e q (fun z => absurd (show b ∈ ([] : List Addr) from z) (by simp)) (by simp)
        · rcases hO b with z | ⟨ob, xs, z⟩
          · exact absurd z q
          · have e1 := (hok b _ z).1
            have e2 := (hok' b _ (un.frzs b ob _ z)).1
            rw [e] at e1
            cases e1
            exact e2
      | next => exact False.elim h
      | brk => exact False.elim h
      | cont => exact False.elim h
  by_cases hk : K.lookup a = Option.none
  · refine main (scriptH a { cls := .type "list", data := .seq vs.toArray } ns) (fun b => ?_) (.inl (.inr ⟨_, if_pos rfl⟩)) (fun b u z => ?_) fun b z => ?_
    · by_cases q : b = a
      · exact .inr ⟨_, _, if_pos q⟩
      · exact .inl (if_neg q)
    · unfold scriptH at z
      by_cases q : b = a
      · rw [if_pos q] at z
        cases z
        subst q
        exact ⟨ha, by rw [List.length_map]; exact hl, vs, _, rv, ha⟩
      · rw [if_neg q] at z
        cases z
    · by_cases q : b = a
      · exact ⟨q, hk⟩
      · exact absurd (if_neg q) z
  · obtain ⟨o, ho⟩ : ∃ o, K.lookup a = some o := by
      cases e : K.lookup a with
      | none => exact absurd e hk
      | some o => exact ⟨o, rfl⟩
    have e := KX a o ho
    rw [ha] at e
    cases e
    refine main (fun _ => Option.none) (fun _ => .inl rfl) ?_ (fun b u z => by cases z) fun b z => absurd rfl z
    exact .inr ⟨_, vs.toArray, _, ho, rfl, rfl, rfl, by rw [List.size_toArray, hi.length]; exact hl, by simpa using rv⟩
theorem walk_law {l : PySem.W.OpenLaw} {n k : Nat} {q : Program} {loose : List Str} {XP : (Str → Option Value) → Heap → Prop} {YP : World → Heap → Prop} {d : DefRec} {K : Params → PySem.W.Frag} {sp : PySem.W.Frag → Sp} {x : Str}
    (hn : l.most = some n) (hn2 : n ≤ sizeLine) (hdf : d.params.defaults = []) (hr : Room k callerA)
    (hY : ∀ (w : World) (h : Heap), YP w h → (K w.params).In h)
    (F : ∀ (w : World) (mg : Str → Option Value) (fa : Addr) (h : Heap), (K w.params).In h → h.Ns mainGlobals mg → mg d.name = some (.ref fa) →
      ∃ fd : FuncData, (∀ (s : Shared) (u : Value), BindsTo s fd ⟨[u], []⟩ [(x, u)]) ∧
        ∀ b : Heap, (K w.params).In b → b.Ns mainGlobals mg → LawAt l.prog w (K w.params) mg b k fa fd [x] (sp (K w.params)))
    (hsp : ∀ (K : PySem.W.Frag) (H : Hp) (a : Addr) (ns : List Int), ns.length ≤ n → Only H → SqL K H a (ns.map V.int) → sp K [.ref a] H (fun v _ => v = .bl true) fun _ _ _ => False) :
    PySem.W.WalkO q loose XP YP l.row.toRowW d [] (fun f vs => PySem.call f vs) := by
  refine Att.attach_call hn hdf fun w s₀ s₁ mg mb fa o pm cd doc a vs ns G Y ho hd hcd hmg hobj hints hlen hg => ?_
  obtain ⟨fd, hb, hF⟩ := F w mg fa _ (hY w _ Y) G.T.g hmg
  exact law_goes (hY w _ Y) G.T.g G.T.b G.T.builtins G.T.nolimit hg hobj hints (Nat.le_trans hlen hn2) hr hF hb fun H hO hS => hsp _ H a ns hlen hO hS
end Cm

/-! defs that are called by name; the hand of draws -/
namespace Cm
open PySem L2 PySem.Spec PyProof.Rows
structure Cl (P : Program) (w : World) (K : PySem.W.Frag) (mg : Str → Option Value) (base : Heap) (k : Nat) (x : Str) (sp : Sp) : Prop where
  ex : ∃ (f : Addr) (fd : FuncData) (ps : List Str), FnOk P w K mg base CX0 k f fd ps sp ∧ mg x = some (.ref f) ∧ PySem.W.keepIn K (.ref f) = true ∧ Binds K fd ps []
/-- where a def of the text stands -/
structure At (K : PySem.W.Frag) (mg : Str → Option Value) (x : Str) (st : Stmt) (ps : List Str) : Prop where
  ex : ∃ (f : Addr) (fd : FuncData), Fun K x x st f fd ∧ mg x = some (.ref f) ∧ Binds K fd ps []
section
variable {P : Program} {w : World} {K : PySem.W.Frag} {mg : Str → Option Value} {base : Heap}
theorem cl_of {x : Str} {st : Stmt} {N ps : List Str} {k : Nat} {sp : Sp} (T : At K mg x st ps) (S : FnScope N ps (defScope st))
    (len : ∀ vs H Q E, sp vs H Q E → vs.length = ps.length)
    (hb : ∀ (f : Addr) (cdv : Value) (A : Around) (outer : List Env) (s : Shared) (H : Hp) (vs : List V) (Q : VK) (E : XK),
      Room k (A.deeper (envOfC x (defScope st) s.heap.objs.size f cdv)) → sp vs H Q E →
      ∃ t, PSs (cxOf CX0 P w K mg base N x (defScope st) f cdv A outer s H E).nox (defBody st) t ∧ t { nx := fun _ H' => Q .non H', rt := Q } (start N vs) H) :
    Cl P w K mg base (k + 1) x sp := by
  obtain ⟨f, fd, F, hm, b⟩ := T.ex
  exact ⟨f, fd, ps, F.ok S len (hb f), hm, F.kp, b⟩
end
section
variable {X : Cx} {j k : Nat} {x : Str} {sp : Sp} {e : Expr} {es : List Expr} {t : TA} {p pos : Pos}
theorem pe_c (c : Cl X.prog X.w X.K X.mg X.base k x sp) (hr : Room j X.A) (hk : k ≤ j) (hg : Gl X x) (ha : PA X (e :: es) t)
    (hdb : (x == ("__debug__" : Str)) = false := by decide) (he : starEach (e :: es) X.env = (false, eval e X.env) :: starEach es X.env := by rfl)
    (hpl : (backTo pos (starEach es X.env)).any (·.1) = false := by rfl) : PE X (.Call (.Name x p) (e :: es) [] pos) (tCall sp [] E0 t) := by
  obtain ⟨f, fd, ps, F, hm, kp, b⟩ := c.ex
  exact pe_call F (hr.mono hk) hg hm kp b .nil pass0 ha hdb he hpl
end

theorem map_at {α β : Type} {f : α → β} {xs : List α} {i : Nat} {y : β} (h : (xs.map f)[i]? = some y) : ∃ x, xs[i]? = some x ∧ y = f x := by
  rw [List.getElem?_map] at h
  obtain ⟨x, a, b⟩ := Option.map_eq_some_iff.mp h
  exact ⟨x, a, b.symm⟩

/-! ### a word between a statement and what follows it -/
def tMid (t u : TS) : TS := fun D σ H => ∃ M : L2.St → Hp → Prop, t { D with nx := M } σ H ∧ ∀ σ' H', M σ' H' → u D σ' H'
theorem pss_mid {X : Cx} {st : Stmt} {rest : List Stmt} {t u : TS} (h1 : PS X st t) (h2 : PSs X rest u) : PSs X (st :: rest) (tMid t u) :=
  ⟨fun pins s σ H D I h => by
    obtain ⟨M, hm, hu⟩ := h
    refine wpAny_execs_cons (thn (h1.run pins s σ H { D with nx := M } I hm) fun fl s1 q => ?_)
    cases fl with
    | next =>
      obtain ⟨σ', H', I', q⟩ := q
      exact h2.run pins s1 σ' H' D I' (hu σ' H' q)
    | ret v => exact q
    | brk => exact q
    | cont => exact q⟩

/-! ### the hand of draws -/
/-- a hand stands at h: the cells, how many were taken, a great cell that is drawn from, a sum -/
def Hand (H : Hp) (h c : Addr) : Prop := ∃ (cells : List Int) (i b t : Int), H h = some (.lst [.ref c, .int i, .int b, .int t]) ∧ H c = some (.lst (cells.map V.int)) ∧ c ≠ h ∧ 0 ≤ i ∧ cells.length ≤ 63
theorem Hand.lst {H : Hp} {h c : Addr} (x : Hand H h c) : ∃ xs, H h = some (.lst xs) := let ⟨_, _, _, _, e, _⟩ := x; ⟨_, e⟩
theorem Hand.same {H H' : Hp} {h c : Addr} (x : Hand H h c) (s : Same H H') : Hand H' h c := by
  obtain ⟨cells, i, b, t, e1, e2, n, z⟩ := x
  exact ⟨cells, i, b, t, s _ _ e1, s _ _ e2, n, z⟩
/-- the hand alone is changed -/
abbrev Kh (h : Addr) : Hp → Hp → Prop := Kp (fun a => a = h)
theorem Hand.kh {H H' : Hp} {h c : Addr} (x : Hand H h c) (s : Same H H') : Kh h H H' := .of_same (fun a m => by subst m; exact x.lst) s
theorem Hand.kr {H : Hp} {h c : Addr} (x : Hand H h c) : Kh h H H := x.kh (Same.refl H)

def spMix : Sp := fun vs H Q _ => ∃ a b : Int, vs = [.int a, .int b] ∧ ∀ n : Int, Q (.int n) H
def spHand (K : PySem.W.Frag) : Sp := fun vs H Q _ => ∃ (a : Addr) (ns : List Int), vs = [.ref a] ∧ SqL K H a (ns.map V.int) ∧ ns.length ≤ 63 ∧ ∀ h c H', Same H H' → H h = Option.none → H c = Option.none → Hand H' h c → Q (.ref h) H'
def spDraw : Sp := fun vs H Q _ => ∃ (h c : Addr) (m : Int), vs = [.ref h, .int m] ∧ Hand H h c ∧ 0 < m ∧ m < 2 ^ 100 ∧ ∀ (n : Int) (H' : Hp), 0 ≤ n → n < m → Kh h H H' → Hand H' h c → Q (.int n) H'
/-- pick out of a list or tuple -/
def spPick (K : PySem.W.Frag) : Sp := fun vs H Q _ => ∃ (h c a : Addr) (xs : List V), vs = [.ref h, .ref a] ∧ Hand H h c ∧ (SqL K H a xs ∧ a ≠ h ∨ SqT K H a xs) ∧ xs ≠ [] ∧ xs.length ≤ 1000 ∧
  ∀ (v : V) (H' : Hp), v ∈ xs → Kh h H H' → Hand H' h c → Q v H'
end Cm

/-! further rules: a tuple read backwards, enumerate over a tuple, sorted(d.keys()) -/
namespace Cm
open PySem L2 PySem.Spec PyProof.Rows
section
variable {prog : Program} {w : World} {A : Around} {E : Value → Shared → Prop} {s : Shared}
theorem adjust_back (n : Nat) : Builtin.Slice.sliceAdjust none none (-1) (n : Int) = ((n : Int) - 1, -1) := by
  unfold Builtin.Slice.sliceAdjust
  simp
theorem places_back (n : Nat) : Builtin.Slice.slicePlaces ((n : Int) - 1) (-1) (-1) = n := by
  unfold Builtin.Slice.slicePlaces
  simp
  try omega
theorem applied_back {sl : Addr} {vs : Value} {n : Nat} {Q : Int × Int × Nat → Shared → Prop} (hs : s.heap.IsSliceOf sl .none .none vs) (ps : IsPart vs (some (-1)))
    (h : Q ((n : Int) - 1, -1, n) s) : wpAny (model prog w) A (Builtin.Slice.sliceApplied (.ref sl) (pure (n : Int))) Q E s := by
  obtain ⟨os, hos, hcs, hds⟩ := id hs
  unfold Builtin.Slice.sliceApplied Builtin.Slice.sliceFields
  refine wpAny_bind (wpAny_bind (wpAny_field hos hds (x := .none) rfl (wpAny_bind (wpAny_field hos hds (x := .none) rfl (wpAny_bind (wpAny_field hos hds (x := vs) rfl (wpAny_pure ?_)))))))
  refine wpAny_bind (HT.slicePart_ ps ?_)
  show wpAny _ _ (if ((-1 : Int) == 0) = true then _ else _) _ _ s
  rw [if_neg (by decide)]
  refine wpAny_bind (slicePart_none (wpAny_bind (slicePart_none (wpAny_bind (wpAny_pure ?_)))))
  show wpAny _ _ (match Builtin.Slice.sliceAdjust none none (-1) (n : Int) with | (lo, hi) => pure (lo, (-1 : Int), Builtin.Slice.slicePlaces lo hi (-1))) _ _ s
  rw [adjust_back]
  show wpAny _ _ (pure ((n : Int) - 1, (-1 : Int), Builtin.Slice.slicePlaces ((n : Int) - 1) (-1) (-1))) _ _ s
  rw [places_back]
  exact wpAny_pure h
theorem filterMap_eqs {α β : Type} {f g : α → Option β} : ∀ l : List α, (∀ x ∈ l, f x = g x) → l.filterMap f = l.filterMap g
  | [], _ => rfl
  | x :: l, h => by
    rw [List.filterMap_cons, List.filterMap_cons, h x List.mem_cons_self, filterMap_eqs l fun y hy => h y (List.mem_cons_of_mem _ hy)]
theorem pick_all (m : List Value) : (List.range m.length).filterMap (fun k => m[k]?) = m := by
  induction m with
  | nil => rfl
  | cons a m ih =>
    rw [List.length_cons, List.range_succ_eq_map, List.filterMap_cons]
    simp only [List.getElem?_cons_zero, List.filterMap_map]
    refine congrArg _ (Eq.trans (filterMap_eqs _ fun k _ => ?_) ih)
    simp
theorem pick_back (xs : Array Value) : ((List.range xs.size).filterMap fun (k : Nat) => xs[((xs.size : Int) - 1 + (k : Int) * -1).toNat]?).toArray = xs.toList.reverse.toArray := by
  have h1 : (List.range xs.size).filterMap (fun (k : Nat) => xs[((xs.size : Int) - 1 + (k : Int) * -1).toNat]?) = (List.range xs.size).filterMap (fun k => xs.toList.reverse[k]?) := by
    refine filterMap_eqs _ fun k hk => ?_
    have hk' : k < xs.size := List.mem_range.mp hk
    have e2 : ((xs.size : Int) - 1 + (k : Int) * -1).toNat = xs.size - 1 - k := by omega
    rw [e2, List.getElem?_reverse (by simpa using hk'), Array.getElem?_toList]
    simp
  have h3 := pick_all xs.toList.reverse
  rw [List.length_reverse, Array.length_toList] at h3
  rw [h1, h3]
theorem getItem_tuple_back {t sl : Addr} {items : Array Value} {vs : Value} {Q : Value → Shared → Prop} (ht : IsTup s.heap t items) (hs : s.heap.IsSliceOf sl .none .none vs) (ps : IsPart vs (some (-1)))
    (h : Q (.ref s.heap.objs.size) { s with heap := s.heap.push { cls := .type "tuple", data := .seq items.toList.reverse.toArray } })
    (hsz : items.size ≤ sizeLine) : wpAny (model prog w) A (getItem (.ref t) (.ref sl)) Q E s := by
  have hok : sizeOk (.seq items.toList.reverse.toArray) := by
    show items.toList.reverse.toArray.size ≤ sizeLine
    rw [List.size_toArray, List.length_reverse, Array.length_toList]
    exact hsz
  obtain ⟨os, hos, hcs, hds⟩ := id hs
  have hTs : s.TypeIs (.ref sl) "slice" := ⟨os, hos, hcs⟩
  unfold getItem
  try with_reducible refine wpAny_holding ?_
  first | refine wpAny_bind (wpAny_pure ?_) | skip
  refine wpAny_bind (wpAny_sequenceKey ht.typeIs (by decide) ?_)
  refine wpAny_bind (wpAny_callSpecial?_slot (name := Str.ofString "__getitem__") ht.typeIs slot_tuple_getitem (wpAny_call_entry slot_tuple_getitem ht.typeIs PyProof.Rows.entry_tuple_getitem ?_ (PyProof.Rows.args_tuple_getitem _ _)))
  show wpAny _ _ (Builtin.Tuple.tupleItemsOf (.ref t) >>= _) _ _ s
  refine wpAny_bind (tupleItemsOf_ ht (wpAny_bind (wpAny_typeOf hTs ?_)))
  rw [if_pos (by decide)]
  refine wpAny_bind (applied_back (n := items.size) hs ps ?_)
  show wpAny _ _ (if ((((items.size : Int) - 1) == 0 && (-1 : Int) == 1 && items.size == items.size) = true) then _ else _) _ _ s
  rw [if_neg (by simp), pick_back]
  first
    | exact wpAny_bind (m := Builtin.Tuple.tupleExact _) (wpAny_newObj_type (wpAny_pure ⟨_, rfl, wpAny_pure h⟩) hok)
    | exact wpAny_bind (m := Builtin.Tuple.tupleExact _) (wpAny_newObj_type (wpAny_bind (wpAny_pure (wpAny_pure ⟨_, rfl, wpAny_pure h⟩))) hok)
end
section
variable {X : Cx}
def tRevT (K : PySem.W.Frag) (te : TE) : TE := fun σ H Q => te σ H fun x H1 => ∃ a xs, x = .ref a ∧ SqT K H1 a xs ∧ ∀ p, H1 p = Option.none → Q (.ref p) (upd H1 p (.tup xs.reverse))
theorem pe_revT {e : Expr} {te : TE} {k : Nat} {p1 p2 p3 pos : Pos} (he : PE X e te) : PE X (.Subscript e (.Slice none none (some (.UnaryOp .USub (.Constant (.int 1) k p1) p2)) p3) pos) (tRevT X.K te) := by
  refine ⟨fun pins s σ H Q I h => ?_⟩
  refine Subscript_ (thn (he.run pins s σ H _ I h) fun v s1 hz => ?_)
  obtain ⟨x, H1, I1, r1, a, xs, ex, hx, q⟩ := hz
  subst ex
  cases r1
  have hst : PO X (some (.UnaryOp .USub (.Constant (.int 1) k p1) p2)) (tPart (tUn (rU fun i => .int (-i)) (tC (.int 1)))) := po_some (pe_un un_neg pe_int)
  refine wpAny_Slice (thn (po_none.run pins s1 σ H1 (fun o H2 => o = none ∧ H2 = H1) I1 ⟨rfl, rfl⟩) fun vl s2 hz => ?_)
  obtain ⟨l, H2, I2, pl, el, e2⟩ := hz
  subst el e2
  refine thn (po_none.run pins s2 σ H2 (fun o H3 => o = none ∧ H3 = H2) I2 ⟨rfl, rfl⟩) fun vu s3 hz => ?_
  obtain ⟨u, H3, I3, pu, eu, e3⟩ := hz
  subst eu e3
  refine thn (hst.run pins s3 σ H3 (fun o H4 => o = some (-1) ∧ H4 = H3) I3 ⟨1, rfl, -1, rfl, rfl, rfl⟩) fun vs s4 hz => ?_
  obtain ⟨o, H4, I4, ps, eo, e4⟩ := hz
  subst eo e4
  cases pl
  cases pu
  have I5 : Inv X pins σ H4 { s4 with heap := s4.heap.push { cls := .type "slice", data := .fields #[.none, .none, vs] } } := I4.kept (t' := s4.toks) fun b ob q => Heap.get?_push_of_some _ q
  obtain ⟨its, r, ht, hz⟩ := I5.tuple hx
  have hlen := r.length
  show wpAny (model X.prog X.w) X.A (subscriptTail e (.Slice none none (some (.UnaryOp .USub (.Constant (.int 1) k p1) p2)) p3) (.ref a) (.ref s4.heap.objs.size)) (EP X pins σ Q) X.xe
    { s4 with heap := s4.heap.push { cls := .type "slice", data := .fields #[.none, .none, vs] } }
  refine tail_any (ops := [.ref a, .ref s4.heap.objs.size]) ht.typeIs slot_tuple_getitem.lookup ?_ (by with_unfolding_all rfl)
  refine getItem_tuple_back ht (Heap.IsSliceOf.new _ .none .none vs) ps ?_ (by rw [List.size_toArray]; omega)
  refine ⟨.ref _, _, I5.laid (t' := s4.toks) (o := .tup xs.reverse) (fun b ob q => Heap.get?_push_of_some _ q) (Nat.le_refl _) ?_, rfl, q _ (I5.hok.fresh (Nat.le_refl _))⟩
  exact ⟨by rw [List.length_reverse]; exact hz, its.reverse, r.reverse, IsTup.new _ _⟩
end

/-! ### enumerate over a tuple -/
theorem enum_new1 {v : Value} {o : Obj} {G : Heap → Prop} (B : Begins v o G) :
    Meets (Builtin.«enumerate.__new__» ⟨[.type "enumerate", v], []⟩) (fun _ R s => G s.heap ∧
      R (.ok (.ret (.ref (s.heap.push o).objs.size))) { s with heap := (s.heap.push o).push { cls := .type "enumerate", data := .fields #[.none, .bool false, .ref s.heap.objs.size, rawInt 0, .none, .none] } }) :=
  .of_wp fun prog w A R s h => by
    obtain ⟨hp, g, d, tk, os⟩ := s
    obtain ⟨h1, h2⟩ := h
    have hsub := sub_enumerate
    have it : ∀ {A' : Around} {E : Value → Shared → Prop} {Q : Value → Shared → Prop}, Q (.ref hp.objs.size) ⟨hp.push o, g, d, tk, os⟩ → wpAny (model prog w) A' (pyIter v) Q E ⟨hp, g, d, tk, os⟩ :=
      fun q => B.iter prog w _ _ ⟨hp, g, d, tk, os⟩ _ h1 q
    wp_walk using it
    refine wpAny_stack_any fun st => wpAny_pure ?_
    split
    · rename_i c _ _ _ _ _
      cases (c == Value.type "enumerate") <;> (wp_walk using it; exact ⟨_, rfl, h2⟩)
    · wp_walk using it
      exact ⟨_, rfl, h2⟩
section
variable {prog : Program} {w : World} {A : Around} {E : Value → Shared → Prop} {s : Shared}
theorem call_enum1 {v : Value} {o : Obj} {G : Heap → Prop} {Q : Value → Shared → Prop} (B : Begins v o G) (h1 : G s.heap)
    (h : ∀ h', IsEnum h' (s.heap.objs.size + 1) s.heap.objs.size 0 .none → h'.get? s.heap.objs.size = some o → h'.objs.size = s.heap.objs.size + 2 →
      (∀ b o, s.heap.get? b = some o → h'.get? b = some o) → Q (.ref (s.heap.objs.size + 1)) { s with heap := h' }) :
    wpAny (model prog w) A (call (.type "enumerate") [v]) Q E s := by
  refine callType_new F.called_enumerate (by decide) (F.typeCall_enumerate_1 _) (F.newCall_enumerate_1 _) (fun obj => F.args_object_init_2 obj _) F.entry_enumerate_new (enum_new1 B) ⟨h1, ?_⟩
  have hz : (s.heap.push o).objs.size = s.heap.objs.size + 1 := Heap.size_push ..
  rw [hz]
  have he : IsEnum ((s.heap.push o).push { cls := .type "enumerate", data := .fields #[.none, .bool false, .ref s.heap.objs.size, rawInt 0, .none, .none] }) (s.heap.objs.size + 1) s.heap.objs.size 0 .none := by
    have e := Heap.get?_push_size (s.heap.push o) (o := { cls := .type "enumerate", data := .fields #[.none, .bool false, .ref s.heap.objs.size, rawInt 0, .none, .none] }) rfl
    rw [hz] at e
    exact e
  exact ⟨⟨_, he, rfl⟩, h _ he (Heap.get?_push_of_some _ (Heap.get?_push_size _ B.free)) (by rw [Heap.size_push, hz]) fun b o x => Heap.get?_push_of_some _ (Heap.get?_push_of_some _ x)⟩
end
/-- the tuple at a, each item in a new pair with its number -/
def IteT (K : PySem.W.Frag) (a : Addr) : It :=
  ⟨fun i H => ∃ (xs : List V) (x : V), SqT K H a xs ∧ xs[i]? = some x, fun i H v H' => ∃ T x, v = .ref T ∧ H T = Option.none ∧ H' = upd H T (.tup [.int (i : Nat), x]) ∧ ∀ xs, SqT K H a xs → xs[i]? = some x,
    fun i H => ∃ xs : List V, SqT K H a xs ∧ xs.length ≤ i⟩
theorem turn_enumT {P : Program} {w : World} {K : PySem.W.Frag} {elts : List Expr} {kk : Nat} {tpos : Pos} (a e it : Addr) :
    Turn P w K (.Tuple elts kk tpos) (IteT K a) [e, it] e (fun i h => (∃ old, IsEnum h e it ((i : Nat) : Int) old) ∧ h.IsTupleIter it a i ∧ e ≠ it ∧ a ≠ it ∧ a ≠ e) where
  mem := by simp
  obj := fun i h st b hb => by
    obtain ⟨⟨old, he⟩, ⟨o, ho, hc, hd⟩, _⟩ := st
    rcases (show b = e ∨ b = it by simpa using hb) with z | z
    · rw [z]; exact ⟨_, he, fun v q => nomatch q⟩
    · rw [z]; exact ⟨o, ho, fun v q => by rw [hd] at q; cases q⟩
  keep := fun i h h' st k => let ⟨⟨old, he⟩, hi, hne⟩ := st; ⟨⟨old, k e (by simp) _ he⟩, hi.at fun o q => k it (by simp) o q, hne⟩
  item := by
    intro X hP hw hK hc i pins s σ H E I hf st hg
    subst hP hw hK
    obtain ⟨⟨old, he⟩, hit, hne, hai, hae⟩ := st
    obtain ⟨xs, x, hq, hx⟩ := hg
    obtain ⟨its, rv, p, hz⟩ := I.tuple hq
    obtain ⟨u, hu, ru⟩ := rv.get hx
    have hel : e < s.heap.objs.size := Heap.lt_size he
    have hil : it < s.heap.objs.size := by obtain ⟨_, q, _⟩ := hit; exact Heap.lt_size q
    have hlt : i < its.toArray.size := by
      rw [List.size_toArray]
      exact (List.getElem?_eq_some_iff.mp hu).1
    refine wpAny_pyNext_enum_itemD (Draws.tuple (prog := X.prog) (w := X.w) (A := X.A.in1) (I.ok.hd hc) it a hai its.toArray) he ⟨hit, p⟩ hlt hne (by simp [hne, Ne.symm hae]) fun y h' tk hy ho hst hT hsz hk => ?_
    have ey : y = u := by
      have q : its[i]? = some y := by simpa using hy
      rw [hu] at q
      exact (Option.some.inj q).symm
    subst ey
    refine ⟨_, rfl, wpAny_letOwnedTupleGo_enum (s := { s with heap := h', toks := tk + 1 }) ho fun h'' he' sb => ?_⟩
    have hT2 : h''.get? s.heap.objs.size = some { cls := .type "tuple", data := .seq #[.int i tk, y] } := (sb.2 _ (Nat.ne_of_gt hel)).trans hT
    have new : ObjOk X.prog X.w (upd H s.heap.objs.size (.tup [.int (i : Nat), x])) h'' s.heap.objs.size (.tup [.int (i : Nat), x]) :=
      ⟨by show 2 ≤ sizeLine; decide, [.int i tk, y], .cons ⟨_, rfl⟩ (.cons ru .nil), ⟨_, hT2, rfl, _, rfl⟩⟩
    have I1 : Inv X pins σ (upd H s.heap.objs.size (.tup [.int (i : Nat), x])) { s with heap := h'', toks := tk + 1 } :=
      I.turnedNew (ch := [e, it]) (fun b ob hb q => (sb.2 b (fun z => hb (by simp [z]))).trans (hk b ob (fun z => hb (by simp [z])) (fun z => hb (by simp [z])) q)) hf (Nat.le_refl _) new
    refine ⟨.ref s.heap.objs.size, _, I1, rfl, ⟨_, x, rfl, I.hok.fresh (Nat.le_refl _), rfl, fun ys hy => by rw [I.tuple_inj hy hq]; exact hx⟩, ⟨⟨y, ?_⟩, hst.1.at fun o q => (sb.2 it (Ne.symm hne)).trans q, hne, hai, hae⟩, fun b hb => ?_⟩
    · have e1 : ((i + 1 : Nat) : Int) = (i : Int) + 1 := by omega
      rw [e1]; exact he'
    · have hb' : b < s.heap.objs.size := by
        rcases (show b = e ∨ b = it by simpa using hb) with z | z
        · rw [z]; exact hel
        · rw [z]; exact hil
      rw [upd_ne (Nat.ne_of_lt hb')]
      exact (hf b hb).1
  done := by
    intro X hP hw hK hc i pins s σ H E I hf st hg
    subst hP hw hK
    obtain ⟨⟨old, he⟩, hit, hne, hai, hae⟩ := st
    obtain ⟨xs, hq, hx⟩ := hg
    obtain ⟨its, rv, p, hz⟩ := I.tuple hq
    obtain ⟨f0, f1, f2, f3, f4, f5⟩ := hf it (by simp)
    have hl := rv.length
    have D : Draws X.prog X.w X.A.in1 it [it, a] i (fun _ _ => False) (fun j h => j = i ∧ h.IsTupleIter it a i ∧ h.IsTuple a its.toArray) :=
      { live := fun _ _ st => let ⟨o, ho, _⟩ := st.2.1; ⟨o, ho⟩
        frame := fun _ _ _ st hk => ⟨st.1, st.2.1.at fun o e => hk it (by simp) o e, st.2.2.at fun o e => hk a (by simp) o e⟩
        item := fun j s Q E hj st => absurd hj (by rw [st.1]; exact Nat.lt_irrefl _)
        done := fun s Q E st hE => wpAny_nextOf_tuple_end (I.ok.hd hc) st.2.1 st.2.2 (by simp; omega) hE }
    exact wpAny_pyNext_enum_endD D he ⟨rfl, hit, p⟩ fun h' eb => ⟨rfl, I.turned (t' := s.toks) (fun b o hb q => eb b o hb q) f0 f1 f3 f4 f5⟩
  self := fun A i s Q E st h => let ⟨⟨_, he⟩, _⟩ := st; wpAny_pyIter_enum he h
def iEnumT (K : PySem.W.Frag) (ta : TA) : TI := fun σ H R => ta σ H fun vs H1 => ∃ a xs, vs = [.ref a] ∧ SqT K H1 a xs ∧ R (IteT K a) H1
theorem pi_enumT {X : Cx} {e : Expr} {ta : TA} {p pos tpos : Pos} {elts : List Expr} {kk : Nat} (hg : Gl X "enumerate") (hm : X.mg "enumerate" = none) (ha : PA X [e] ta) (hs : starEach [e] X.env = [(false, eval e X.env)] := by rfl) :
    PI X (.Tuple elts kk tpos) (.Call (.Name "enumerate" p) [e] [] pos) (iEnumT X.K ta) := by
  refine ⟨fun pins s σ H R I h => ?_⟩
  refine Call_ (ld_blt I hg hm boot_enumerate (PyProof.Rows.callWith_type1 (thn (ha.run pos pins s σ H _ I h) fun us s1 hz => ?_) hs rfl))
  obtain ⟨vs, H1, I1, r1, a, xs, ex, hq, q⟩ := hz
  subst ex
  cases r1 with
  | cons r rr =>
    cases rr
    cases r
    obtain ⟨its, rv, p', hz⟩ := I1.tuple hq
    refine call_enum1 (begins_tuple a its.toArray) p' fun h' he hit hsz hk => wpAny_pyIter_enum he ?_
    have hal : a < s1.heap.objs.size := p'.lt
    refine ⟨s1.heap.objs.size + 1, [s1.heap.objs.size + 1, s1.heap.objs.size], _, _, H1, rfl, I1.kept (t' := s1.toks) hk, turn_enumT a (s1.heap.objs.size + 1) s1.heap.objs.size,
      ⟨⟨.none, he⟩, ⟨_, hit, rfl, rfl⟩, Nat.succ_ne_self _, Nat.ne_of_lt hal, Nat.ne_of_lt (Nat.lt_succ_of_lt hal)⟩, fun b hb => ?_, q⟩
    have hle : s1.heap.objs.size ≤ b := by
      rcases (show b = s1.heap.objs.size + 1 ∨ b = s1.heap.objs.size by simpa using hb) with z | z
      · rw [z]; exact Nat.le_add_right _ _
      · rw [z]; exact Nat.le_refl _
    exact I1.fpOk hle (I1.hok.fresh hle)
theorem walk_enumT {K : PySem.W.Frag} {a : Addr} {xs : List V} : Walk (IteT K a) xs.length (fun H => SqT K H a xs) (YPair (fun i => some (.int (i : Nat))) (fun i => xs[i]?)) := by
  refine ⟨fun i _ hi q => ⟨xs, xs[i], q, by simp [hi]⟩, fun _ q => ⟨xs, q, Nat.le_refl _⟩, fun i H v H' _ q y => ?_⟩
  obtain ⟨T, x, h1, h2, h3, h4⟩ := y
  exact ⟨T, .int (i : Nat), x, h1, h2, h3, rfl, h4 xs q⟩
theorem walk_zipT {K : PySem.W.Frag} {a b : Addr} {xs ys : List V} {n : Nat} (hn : n = min xs.length ys.length) : Walk (RZ.ItzT K a b) n (fun H => SqT K H a xs ∧ SqT K H b ys) (YPair (fun i => xs[i]?) (fun i => ys[i]?)) := by
  subst hn
  refine ⟨fun i _ hi q => ?_, fun _ q => ⟨xs, ys, q.1, q.2, by omega⟩, fun i H v H' _ q y => ?_⟩
  · have h1 : i < xs.length := by omega
    have h2 : i < ys.length := by omega
    exact ⟨xs, ys, xs[i], ys[i], q.1, q.2, by simp [h1], by simp [h2]⟩
  · obtain ⟨T, x, z, h1, h2, h3, h4, h5⟩ := y
    exact ⟨T, x, z, h1, h2, h3, h4 xs q.1, h5 ys q.2⟩

/-! ### sorted(d.keys()) of a dict of int keys -/
section
variable {X : Cx}
/-- the view r of the keys of the dict at d -/
def ViewO (r d : Addr) : HO := .ext fun h => PySem.W.KdlKeysView h r d
def tKeys (td : TE) : TE := fun σ H Q => td σ H fun x H1 => ∃ d, x = .ref d ∧ (∃ kvs, H1 d = some (.dK kvs)) ∧ ∀ r, H1 r = Option.none → Q (.ref r) (upd H1 r (ViewO r d))
theorem pe_keys {e : Expr} {td : TE} {apos cpos : Pos} (he : PE X e td) (hbase : attributeBase e "keys" X.env (eval e X.env) = eval e X.env := by rfl) (hline : (apos.endLine == cpos.line) = true := by rfl) :
    PE X (.Call (.Attribute e "keys" apos) [] [] cpos) (tKeys td) := by
  refine ⟨fun pins s σ H Q I h => ?_⟩
  refine wpAny_Call_method (T := "dict") (id := "dict.keys") hbase rfl hline F.plainAttrs_dict F.slot_dict_keys F.type_dict_keys (thn (he.run pins s σ H _ I h) fun u s1 hz => ?_)
  obtain ⟨x, H1, I1, rx, d, ex, ⟨kvs, hd⟩, q⟩ := hz
  subst ex
  obtain rfl : u = Value.ref d := rx
  obtain ⟨z, lo, vs, rel, dd⟩ := dk_of I1.hok hd
  refine ⟨dd.typeIs, dd.mapOf.noDict, ?_⟩
  show wpAny _ _ (callWith cpos (.builtin "dict.keys") [.ref d] [] []) _ X.xe s1
  have fin : EP X pins σ Q (.ref s1.heap.objs.size) { s1 with heap := s1.heap.push { cls := .type "dict_keys", data := .fields #[.ref d] } } := by
    refine ⟨.ref s1.heap.objs.size, upd H1 s1.heap.objs.size (ViewO s1.heap.objs.size d), I1.laid (t' := s1.toks) (fun b u e => Heap.get?_push_of_some _ e) (Nat.le_refl _) ?_, rfl, q _ (I1.hok.fresh (Nat.le_refl _))⟩
    refine ⟨⟨_, Heap.get?_push_size _ rfl, rfl, rfl⟩, ⟨_, Heap.get?_push_size _ rfl⟩, fun h1 h2 a b => ?_⟩
    obtain ⟨o, ho, c⟩ := a
    exact ⟨o, b o ho, c⟩
  exact method_meetsIn F.slot_dict_keys F.entry_dict_keys rfl (PySem.evalArgs_none ⟨rfl, dd.typeIs, F.args_dict_keys_1 _, _, PySem.W.kdl_meets_keys (mixKind X.prog X.w) d lo, ⟨vs, dd⟩, fin⟩)
theorem call_sortedK (hcalm : X.calm = true) : CallR X (.builtin "sorted") (fun xs H Q => ∃ (r d : Addr) (kvs : List (Key × V)) (ks : List Int), xs = [.ref r] ∧ H r = some (ViewO r d) ∧ H d = some (.dK kvs) ∧ kvs.map (·.1) = ks.map Sum.inl ∧ ks.length < 64 ∧
    ∀ (ys : List Int) (p : Addr), ys.Perm ks → ys.Pairwise (· ≤ ·) → H p = Option.none → Q (.ref p) (upd H p (.lst (ys.map V.int)))) := by
  intro pins s σ H xs us Q I rr q
  obtain ⟨r, d, kvs, ks, ex, hr, hd, hks, h64, q⟩ := q
  subst ex
  obtain ⟨u, eu, rx⟩ := vals1 rr
  subst eu
  cases rx
  have hv : PySem.W.KdlKeysView s.heap r d := (I.hok r _ hr).1
  obtain ⟨z, lo, vs, rel, dd⟩ := dk_of I.hok hd
  obtain ⟨ep, hat⟩ := dd.dictAt
  have hkeys : vs.map (·.1) = ks.map Sum.inl := rel.keys.symm.trans hks
  have hl : vs.length = ks.length := by simpa using congrArg List.length hkeys
  have h16 : vs.length ≤ sizeLine := by rw [hl, sizeLine_eq]; omega
  refine Calls.call_function_entry PyProof.Rows.kind_sorted PyProof.Rows.plain_sorted PyProof.Rows.entry_sorted (PyProof.Rows.args_sorted1 _) ?_
  unfold Builtin.«sorted»
  refine wpAny_bind (m := checkCount "sorted" 1 1 _) (wpAny_pure ?_)
  refine wpAny_bind (PySem.W.kdu_collect (A := X.A.in1) (PySem.W.kdl_keys (knd := mixKind X.prog X.w) (r := r) (d := d) (kvs := vs) (ep := ep)) (I.ok.hd hcalm) ⟨hv, hat⟩ h16 fun h' tk acc hk hacc => ?_)
  have hal : acc.toList.length = ks.length := by rw [Array.length_toList, hacc.1, hl]
  have hS : IntsAre acc.toList ks := ints_each hal fun j v e => by
    obtain ⟨k, x, e1, e2⟩ := hacc.2 j v (by rw [← Array.getElem?_toList]; exact e)
    have e3 : (vs.map (·.1))[j]? = some k := by rw [List.getElem?_map, e1]; rfl
    rw [hkeys, List.getElem?_map] at e3
    obtain ⟨y, ey, e4⟩ := Option.map_eq_some_iff.mp e3
    subst e4
    rcases keyIs_shape (show keyIs (Sum.inl y) v = true from e2) with ⟨i, t, ek, ev⟩ | ⟨_, t, ek, ev⟩
    · cases ek
      exact ⟨y, t, ey, ev⟩
    · cases ek
  have I1 : Inv X pins σ H { s with heap := h', toks := tk } := I.kept hk
  refine wpAny_bind (wpAny_newList ?_ (by rw [hal, sizeLine_eq]; omega))
  have hoL : (h'.push (seqObj "list" acc.toList.toArray 0)).get? h'.objs.size = some (seqObj "list" acc.toList.toArray 0) := Heap.get?_push_size _ rfl
  show wpAny _ _ _ _ _ { s with heap := h'.push (seqObj "list" acc.toList.toArray 0), toks := tk }
  refine wpAny_bind (wpAny_holding (wpAny_call_entry PyProof.Rows.slot_list_sort ⟨_, hoL, rfl⟩ PyProof.Rows.entry_list_sort
    (PyProof.Rows.list_sort_tree (s := { s with heap := h'.push (seqObj "list" acc.toList.toArray 0), toks := tk }) hoL hS (by rw [hal]; exact h64) fun out ys g1 g2 g3 => ⟨_, rfl, ?_⟩) (PyProof.Rows.args_list_sort _)))
  obtain ⟨e', he'⟩ := PyProof.Rows.sortedHeap_at (vs := acc.toList) (out := out) hoL
  have hlen : (ys.map V.int).length ≤ sizeLine := by
    rw [List.length_map, g2.length_eq]
    exact Nat.le_trans (Nat.le_of_lt h64) (by decide)
  refine wpAny_pure ⟨_, rfl, .ref h'.objs.size, upd H h'.objs.size (.lst (ys.map V.int)), I1.laid (t' := tk) (fun b u e => ?_) (Nat.le_refl _)
    (show ObjOk X.prog X.w _ _ _ (.lst (ys.map V.int)) from ⟨hlen, out.toList, e', vals_of_ints g1, by rw [Array.toArray_toList]; exact he'⟩), rfl, q ys _ g2 g3 (I1.hok.fresh (Nat.le_refl _))⟩
  have hb : b < h'.objs.size := Heap.lt_size e
  rw [PyProof.Rows.sortedHeap_old (Nat.ne_of_lt hb) (by rw [size_push']; exact Nat.lt_succ_of_lt hb)]
  exact Heap.get?_push_of_some _ e
end
end Cm

/-! a dict of things by births -/
namespace Cm
open PySem L2
/-- a thing: a word, then data without lists -/
def windD (b : Int) : PyData := .tuple [.str "wind", .int (1000 + b), .int (2000 + b)]
def wordD : PyData → Str
  | .tuple (.str x :: _) => x
  | _ => ""
structure Th (b : Int) (d : PyData) : Prop where
  ex : ∃ (wd : Str) (r : List PyData), d = .tuple (.str wd :: r)
  fl : flatD d = true
  ok : okD d = true
  dp : d.depth ≤ 8
  wt : d.weight ≤ 4000
  wn : wordD d = "wind" → d = windD b
/-- the dict at d holds es -/
structure ThAt (K : PySem.W.Frag) (H : Hp) (d : Addr) (es : List (Int × PyData)) (kvs : List (Key × V)) : Prop where
  at_ : H d = some (.dK kvs)
  ks : kvs.map (·.1) = es.map (fun e => Sum.inl e.1)
  vs : DpAll K H (kvs.map (·.2)) (es.map (·.2))
  th : ∀ e ∈ es, Th e.1 e.2
def thg (es : List (Int × PyData)) (b : Int) : PyData := ((es.find? fun e => decide (e.1 = b)).map (·.2)).getD .none
def word (es : List (Int × PyData)) (b : Int) : Str := wordD (thg es b)
theorem th_find {K : PySem.W.Frag} {H : Hp} (b : Int) : ∀ (es : List (Int × PyData)) (kvs : List (Key × V)), kvs.map (·.1) = es.map (fun e => (Sum.inl e.1 : Key)) → DpAll K H (kvs.map (·.2)) (es.map (·.2)) →
    b ∈ es.map (·.1) → ∃ v, valV kvs (Sum.inl b) = some v ∧ Dp K H v (thg es b) ∧ (b, thg es b) ∈ es
  | [], _, _, _, m => by simp at m
  | e :: es, kvs, hk, hv, m => by
    cases kvs with
    | nil => simp at hk
    | cons a kvs =>
      simp only [List.map_cons, List.cons.injEq] at hk
      cases hv with
      | cons h1 h2 =>
        by_cases q : e.1 = b
        · refine ⟨a.2, ?_, ?_, ?_⟩
          · unfold valV
            rw [List.find?_cons_of_pos (by rw [hk.1, q]; simp)]
            rfl
          · have : thg (e :: es) b = e.2 := by
              unfold thg
              rw [List.find?_cons_of_pos (by simp [q])]
              rfl
            rw [this]
            exact h1
          · have : thg (e :: es) b = e.2 := by
              unfold thg
              rw [List.find?_cons_of_pos (by simp [q])]
              rfl
            rw [this, ← q]
            exact List.mem_cons_self
        · have m' : b ∈ es.map (·.1) := by
            simp only [List.map_cons, List.mem_cons] at m
            rcases m with m | m
            · exact absurd m.symm q
            · exact m
          obtain ⟨v, g1, g2, g3⟩ := th_find b es kvs hk.2 h2 m'
          have e2 : thg (e :: es) b = thg es b := by
            unfold thg
            rw [List.find?_cons_of_neg (by simpa using q)]
          refine ⟨v, ?_, by rw [e2]; exact g2, by rw [e2]; exact List.mem_cons_of_mem _ g3⟩
          unfold valV at g1 ⊢
          rw [List.find?_cons_of_neg (by rw [hk.1]; simpa using q)]
          exact g1
theorem ThAt.get {K : PySem.W.Frag} {H : Hp} {d : Addr} {es : List (Int × PyData)} {kvs : List (Key × V)} (x : ThAt K H d es kvs) {b : Int} (m : b ∈ es.map (·.1)) :
    ∃ (p : Addr) (its : List V), DGet H d (.int b) (some (.ref p)) ∧ SqT K H p its ∧ atI its 0 = some (.str (word es b)) ∧ Dp K H (.ref p) (thg es b) ∧ Th b (thg es b) := by
  obtain ⟨v, h1, h2, h3⟩ := th_find b es kvs x.ks x.vs m
  have t : Th b (thg es b) := x.th _ h3
  obtain ⟨wd, r, ed⟩ := t.ex
  have h2' := h2
  have e3 : word es b = wd := by
    unfold word
    rw [ed]
    rfl
  rw [ed] at h2'
  cases h2' with
  | @tup a its ds hs ha =>
    refine ⟨a, its, ?_, hs, ?_, by rw [ed]; exact .tup hs ha, t⟩
    · have q := DGet.k (k := Sum.inl b) x.at_
      rw [h1] at q
      exact q
    · rw [e3]
      cases ha with
      | cons q1 q2 =>
        cases q1
        exact atI_nat (j := 0) rfl
theorem putK_end {kvs : List (Key × V)} {k : Key} {v : V} (h : ∀ p ∈ kvs, p.1 ≠ k) : putK kvs k v = kvs ++ [(k, v)] := by
  unfold putK
  rw [if_neg]
  intro q
  obtain ⟨p, hp, e⟩ := List.any_eq_true.mp q
  exact h p hp (of_decide_eq_true e)
theorem decS {x y : Str} : decide (V.str x = V.str y) = decide (x = y) := by
  by_cases q : x = y
  · rw [q]; simp
  · rw [decide_eq_false q, decide_eq_false (fun z => q (V.str.inj z))]
theorem ThAt.same {K : PySem.W.Frag} {H H' : Hp} {d : Addr} {es : List (Int × PyData)} {kvs : List (Key × V)} (x : ThAt K H d es kvs) (s : Same H H') : ThAt K H' d es kvs :=
  ⟨s _ _ x.at_, x.ks, dps_same s _ _ x.vs, x.th⟩
theorem flatDs_of : ∀ ds : List PyData, (∀ d ∈ ds, flatD d = true) → flatDs ds = true
  | [], _ => rfl
  | d :: ds, h => by simp [flatDs, h d List.mem_cons_self, flatDs_of ds fun x hx => h x (List.mem_cons_of_mem _ hx)]
theorem ThAt.fl {K : PySem.W.Frag} {H : Hp} {d : Addr} {es : List (Int × PyData)} {kvs : List (Key × V)} (x : ThAt K H d es kvs) : flatDs (es.map (·.2)) = true :=
  flatDs_of _ fun z hz => by
    obtain ⟨e, he, rfl⟩ := List.mem_map.mp hz
    exact (x.th e he).fl
theorem ThAt.kp {M : Addr → Prop} {K : PySem.W.Frag} {H H' : Hp} {d : Addr} {es : List (Int × PyData)} {kvs : List (Key × V)} (x : ThAt K H d es kvs) (k : Kp M H H') (n : ¬ M d) : ThAt K H' d es kvs :=
  ⟨k.st _ _ n x.at_, x.ks, dps_keep (fun _ _ h => k.tup h) _ _ x.fl x.vs, x.th⟩
theorem wt_int {i : Int} (h : i.natAbs < 10 ^ 12) : PyData.weight (.int i) ≤ 64 := by
  simp only [PyData.weight]
  split
  · omega
  · rename_i q
    have q' : i.natAbs ≠ 0 := by
      intro z
      apply q
      simp
      omega
    have := (Nat.log2_lt q').mpr (show i.natAbs < 2 ^ 63 from Nat.lt_of_lt_of_le h (by decide))
    omega
theorem ThAt.snoc {K : PySem.W.Frag} {H : Hp} {d : Addr} {es : List (Int × PyData)} {kvs : List (Key × V)} (x : ThAt K H d es kvs) {b : Int} {v : V} {t : PyData} (n : b ∉ es.map (·.1)) (hv : Dp K H v t) (ht : Th b t) :
    ThAt K (upd H d (.dK (putK kvs (Sum.inl b) v))) d (es ++ [(b, t)]) (putK kvs (Sum.inl b) v) := by
  have e1 : putK kvs (Sum.inl b) v = kvs ++ [(Sum.inl b, v)] := putK_end fun p hp q => n (by
    have : p.1 ∈ kvs.map (·.1) := List.mem_map.mpr ⟨p, hp, rfl⟩
    rw [x.ks] at this
    obtain ⟨e, he, e2⟩ := List.mem_map.mp this
    rw [q] at e2
    exact List.mem_map.mpr ⟨e, he, Sum.inl.inj e2⟩)
  have keep : ∀ a xs, SqT K H a xs → SqT K (upd H d (.dK (putK kvs (Sum.inl b) v))) a xs := fun a xs h => by
    rcases h with (h | ⟨o, h⟩) | h
    · exact .inl (.inl (by rw [upd_ne (ne_of h x.at_ (by intro z; cases z))]; exact h))
    · exact .inl (.inr ⟨o, by rw [upd_ne (ne_of h x.at_ (by intro z; cases z))]; exact h⟩)
    · exact .inr h
  refine ⟨upd_same, ?_, ?_, ?_⟩
  · rw [e1, List.map_append, List.map_append, x.ks]
    rfl
  · have h1 := dps_keep keep _ _ x.fl x.vs
    have h2 := dp_keep keep _ _ ht.fl hv
    rw [show (putK kvs (Sum.inl b) v).map (·.2) = kvs.map (·.2) ++ [v] by rw [e1, List.map_append]; rfl, List.map_append]
    exact DpAll.snoc h2 h1
  · intro e he
    rcases List.mem_append.mp he with he | he
    · exact x.th e he
    · cases List.mem_singleton.mp he
      exact ht
theorem Kp.mut {M : Addr → Prop} {H H' : Hp} {d : Addr} {o : HO} (k : Kp M H H') (hd : H d = Option.none) : Kp M H (upd H' d o) :=
  ⟨fun a u n e => by
    rw [upd_ne (ne_of_none e hd)]
    exact k.st a u n e, k.l1, fun a m => by
    have q : a ≠ d := fun q => k.m_of hd (q ▸ m)
    rw [upd_ne q]
    exact k.l2 a m⟩
theorem Hand.put {H : Hp} {h c d : Addr} {o : HO} (x : Hand H h c) (n : ∀ xs, H d ≠ some (.lst xs)) : Hand (upd H d o) h c := by
  obtain ⟨cells, i, b, t, e1, e2, q⟩ := x
  refine ⟨cells, i, b, t, ?_, ?_, q⟩
  · rw [upd_ne (fun z => n _ (z ▸ e1))]
    exact e1
  · rw [upd_ne (fun z => n _ (z ▸ e2))]
    exact e2
theorem Hand.puts {H : Hp} {h c d : Addr} {o : HO} (x : Hand H h c) (n1 : d ≠ h) (n2 : d ≠ c) : Hand (upd H d o) h c := by
  obtain ⟨cells, i, b, t, e1, e2, q⟩ := x
  exact ⟨cells, i, b, t, by rw [upd_ne (Ne.symm n1)]; exact e1, by rw [upd_ne (Ne.symm n2)]; exact e2, q⟩
theorem Hand.there {H : Hp} {h c d : Addr} (x : Hand H h c) (n : H d = Option.none) : d ≠ h ∧ d ≠ c := by
  obtain ⟨cells, i, b, t, e1, e2, q⟩ := x
  exact ⟨(ne_of_none e1 n).symm, (ne_of_none e2 n).symm⟩
theorem Hand.ne {H : Hp} {h c d : Addr} (x : Hand H h c) (n : ∀ xs, H d ≠ some (.lst xs)) : d ≠ h := fun z => by
  obtain ⟨xs, e⟩ := x.lst
  exact n xs (z ▸ e)
/-- 1 .. n -/
def births (n : Nat) : List Int := (List.range n).map fun (i : Nat) => (i : Int) + 1
theorem births_succ (n : Nat) : births (n + 1) = births n ++ [(n : Int) + 1] := by
  unfold births
  rw [List.range_succ, List.map_append]
  rfl
theorem births_mem {n : Nat} {b : Int} : b ∈ births n ↔ 1 ≤ b ∧ b ≤ n := by
  unfold births
  rw [List.mem_map]
  constructor
  · rintro ⟨i, hi, rfl⟩
    have := List.mem_range.mp hi
    omega
  · intro q
    exact ⟨(b - 1).toNat, List.mem_range.mpr (by omega), by omega⟩
/-- a new thing is put at the next birth -/
theorem things_put {K : PySem.W.Frag} {H H3 : Hp} {h c d : Addr} {es : List (Int × PyData)} {kvs : List (Key × V)} {i : Nat} {v : V} {t : PyData} (kh : Kh h H H3) (hh : Hand H3 h c) (x : ThAt K H3 d es kvs) (hd : H d = Option.none)
    (hk : es.map (·.1) = births i) (hi : i < 1000) (hv : Dp K H3 v t) (ht : Th (1 + i) t) :
    ∃ H4 es' kvs', DPut H3 d (.int (1 + (i : Nat))) v H4 ∧ Kh h H H4 ∧ Hand H4 h c ∧ ThAt K H4 d es' kvs' ∧ es'.map (·.1) = births (i + 1) := by
  have hb : (1 : Int) + i ∉ es.map (·.1) := by
    rw [hk, births_mem]
    omega
  have hl : kvs.length < sizeLine := by
    have e := congrArg List.length x.ks
    rw [List.length_map, List.length_map] at e
    have e2 := congrArg List.length hk
    rw [List.length_map] at e2
    have e3 : (births i).length = i := by unfold births; rw [List.length_map, List.length_range]
    rw [e, e2, e3]
    exact Nat.lt_trans hi (by decide)
  refine ⟨_, _, _, DPut.k (k := Sum.inl (1 + (i : Int))) x.at_ hl, kh.mut hd, hh.put (fun xs e => by rw [x.at_] at e; cases e), x.snoc hb hv ht, ?_⟩
  rw [List.map_append, hk, births_succ]
  show births i ++ [1 + (i : Int)] = _
  rw [show (1 : Int) + i = i + 1 by omega]
theorem births_len (n : Nat) : (births n).length = n := by
  unfold births
  rw [List.length_map, List.length_range]
end Cm

/-! comprehensions over data -/
namespace Cm
open PySem L2
theorem sqt_put {K : PySem.W.Frag} {H : Hp} {D a : Addr} {xs ys zs : List V} (h : H D = some (.lst ys)) (q : SqT K H a xs) : SqT K (upd H D (.lst zs)) a xs := by
  rcases q with (q | ⟨o, q⟩) | q
  · exact .inl (.inl (by rw [upd_ne (ne_of q h (by intro z; cases z))]; exact q))
  · exact .inl (.inr ⟨o, by rw [upd_ne (ne_of q h (by intro z; cases z))]; exact q⟩)
  · exact .inr q
theorem same_put {H H' : Hp} {D : Addr} {o : HO} (s : Same H H') (h : H D = Option.none) : Same H (upd H' D o) := fun b u e => by
  rw [upd_ne (ne_of_none e h)]
  exact s b u e
theorem sqt_same {K : PySem.W.Frag} {H H' : Hp} {a : Addr} {xs : List V} (s : Same H H') (h : SqT K H a xs) : SqT K H' a xs := by
  rcases h with (h | ⟨o, h⟩) | h
  · exact .inl (.inl (s _ _ h))
  · exact .inl (.inr ⟨o, s _ _ h⟩)
  · exact .inr h
theorem flatDs_all {ds : List PyData} (h : flatDs ds = true) : ∀ d ∈ ds, flatD d = true := by
  induction ds with
  | nil => intro d hd; cases hd
  | cons a r ih =>
    have h' : flatD a = true ∧ flatDs r = true := by simpa [flatDs] using h
    intro d hd
    rcases List.mem_cons.mp hd with rfl | hd
    · exact h'.1
    · exact ih h'.2 d hd
theorem flatDs_app {ds es : List PyData} (h1 : flatDs ds = true) (h2 : flatDs es = true) : flatDs (ds ++ es) = true :=
  flatDs_of _ fun d hd => by
    rcases List.mem_append.mp hd with q | q
    · exact flatDs_all h1 d q
    · exact flatDs_all h2 d q
theorem walk_upto {n : Nat} : Walk (Itr 0 n) n (fun _ => True) (YFn fun i => .int ((i : Nat) : Int)) :=
  ⟨fun _ _ hi _ => hi, fun _ _ => Nat.le_refl _, fun i H x H' _ _ y => ⟨y.1, by
    have := y.2
    rw [Int.zero_add] at this
    exact this⟩⟩
/-! ### the same rules where the context is a comprehension's block: K is said -/
section
variable {X : Cx} {K : PySem.W.Frag}
theorem kx_tup (h : X.K = K := by rfl) : IxR X (rIxT K) := by subst h; exact ix_tup
theorem kx_list (h : X.K = K := by rfl) : IxR X (rIxL K) := by subst h; exact ix_list
theorem kx_seq (h : X.K = K := by rfl) : IxR X (rIx K) := by subst h; exact ix_seq
theorem ko_eqD (hu : X.A.units + 64 < cLine) (h : X.K = K := by rfl) : OpR X (compareOp .Eq) (rEqD K) := by subst h; exact op_eqD hu
theorem ko_neD (hu : X.A.units + 64 < cLine) (h : X.K = K := by rfl) : OpR X (compareOp .NotEq) (rNeD K) := by subst h; exact op_neD hu
theorem ko_in (h : X.K = K := by rfl) : OpR X (compareOp .In) (rIn K false) := by subst h; exact op_in_seq
theorem ko_notIn (h : X.K = K := by rfl) : OpR X (compareOp .NotIn) (rIn K true) := by subst h; exact op_notIn_seq
theorem ko_catA (h : X.K = K := by rfl) : OpR X (binaryOp .Add) (rCatA K) := by subst h; exact op_catA
def rLen (K : PySem.W.Frag) : List V → Hp → VK → Prop := fun xs H Q => ∃ p ys, xs = [.ref p] ∧ (SqL K H p ys ∨ SqT K H p ys) ∧ Q (.int ys.length) H
theorem kc_len (h : X.K = K := by rfl) : CallR X (.builtin "len") (rLen K) := by subst h; exact call_len_seq
end
/-- a comprehension whose items are data without lists: R i is the i-th turn's, none if it is left out -/
theorem lc_data {K : PySem.W.Frag} {J : It} {n : Nat} {G : Hp → Prop} {Y : Nat → Hp → V → Hp → Prop} (wk : Walk J n G Y) {g : TG} {tt : TT} {te : TE} {vs : List Nat} {σ : L2.St} {H1 : Hp} {D : Addr} {Qd : Hp → Prop} (R : Nat → Option PyData)
    (hD : H1 D = Option.none) (hn : n ≤ 100000) (hG : ∀ H, Same H1 H → G H) (hfl : ∀ i < n, ∀ d, R i = some d → flatD d = true)
    (hs : ∀ i x H H', i < n → Same H1 H → Y i H x H' → ∀ (Q1 : VK) (Q0 : Hp → Prop), (∀ v H4 d, R i = some d → Same H H4 → Dp K H4 v d → Q1 v H4) → (∀ H3, R i = none → Same H H3 → Q0 H3) →
      g x (wipe σ vs) H' fun σ2 H2 => wipe σ2 vs = wipe σ vs ∧ tt σ2 H2 fun b H3 => if b = true then te σ2 H3 Q1 else Q0 H3)
    (hd : ∀ H acc, Same H1 H → H D = some (.lst acc) → DpAll K H acc ((List.range n).filterMap R) → Qd H) :
    ∃ W : Nat → Nat → Hp → Prop, (∃ m, W 0 m (upd H1 D (.lst []))) ∧ ∀ i m H, W i m H →
      (J.stop i H ∧ Qd H) ∨ (J.go i H ∧ ∃ Nx : Hp → Prop, (∀ H', Nx H' → ∃ m', m' < m ∧ W (i + 1) m' H') ∧ ∀ x H', J.yld i H x H' → g x (wipe σ vs) H' fun σ2 H2 => wipe σ2 vs = wipe σ vs ∧ tt σ2 H2 fun b H3 =>
        if b = true then te σ2 H3 fun y H4 => ∃ acc, H4 D = some (.lst acc) ∧ acc.length < sizeLine ∧ Nx (upd H4 D (.lst (acc ++ [y]))) else Nx H3) := by
  have fl : ∀ i ≤ n, flatDs ((List.range i).filterMap R) = true := fun i hi => flatDs_of _ fun d hd => by
    obtain ⟨j, hj, e⟩ := List.mem_filterMap.mp hd
    exact hfl j (by have := List.mem_range.mp hj; omega) d e
  refine lc_it wk (fun i H => ∃ acc, Same H1 H ∧ H D = some (.lst acc) ∧ DpAll K H acc ((List.range i).filterMap R) ∧ acc.length ≤ i) ⟨[], same_new hD, upd_same, .nil, Nat.le_refl _⟩ (fun i H _ z => ?_) ?_ ?_
  · obtain ⟨acc, s, _⟩ := z
    exact hG H s
  · rintro i x H H' hi ⟨acc, s, hacc, ha, hl⟩ y
    refine hs i x H H' hi s y _ _ (fun v H4 d e s4 hv => ?_) (fun H3 e s3 => ?_)
    · have hD4 := s4 _ _ hacc
      refine ⟨acc, hD4, Nat.lt_of_le_of_lt hl (Nat.lt_of_lt_of_le (show i < 100000 by omega) (by decide)), acc ++ [v], same_put (s.trans s4) hD, upd_same, ?_, by rw [List.length_append]; exact Nat.succ_le_succ hl⟩
      rw [List.range_succ, List.filterMap_append]
      have e1 : ([i].filterMap R) = [d] := by simp [e]
      rw [e1]
      exact DpAll.snoc (dp_keep (fun _ _ q => sqt_put hD4 q) _ _ (hfl i hi d e) hv) (dps_keep (fun _ _ q => sqt_put hD4 q) _ _ (fl i (by omega)) (dps_same s4 _ _ ha))
    · refine ⟨acc, s.trans s3, s3 _ _ hacc, ?_, by omega⟩
      rw [List.range_succ, List.filterMap_append]
      have e1 : ([i].filterMap R) = [] := by simp [e]
      rw [e1, List.append_nil]
      exact dps_same s3 _ _ ha
  · rintro H ⟨acc, s, hacc, ha, _⟩
    exact hd H acc s hacc ha
/-- a comprehension that draws: each item is data that is good -/
theorem lc_draw {K : PySem.W.Frag} {M : Addr → Prop} {J : It} {n : Nat} {G : Hp → Prop} {Y : Nat → Hp → V → Hp → Prop} (wk : Walk J n G Y) {g : TG} {tt : TT} {te : TE} {vs : List Nat} {σ : L2.St} {H1 : Hp} {D : Addr} {Qd : Hp → Prop}
    (I : Hp → Prop) (Gd : PyData → Prop) (hM : ∀ a, M a → ∃ xs, H1 a = some (.lst xs)) (h0 : I (upd H1 D (.lst []))) (hI : ∀ H ys, Kp M H1 H → I H → I (upd H D (.lst ys)))
    (hD : H1 D = Option.none) (hn : n ≤ 100000) (hG : ∀ H, Kp M H1 H → I H → G H) (hfl : ∀ d, Gd d → flatD d = true)
    (hs : ∀ i x H H', i < n → Kp M H1 H → I H → Y i H x H' → ∀ (Q1 : VK) (Q0 : Hp → Prop), (∀ v H4 d, Gd d → Kp M H H4 → I H4 → Dp K H4 v d → Q1 v H4) → (∀ H3, Kp M H H3 → I H3 → Q0 H3) →
      g x (wipe σ vs) H' fun σ2 H2 => wipe σ2 vs = wipe σ vs ∧ tt σ2 H2 fun b H3 => if b = true then te σ2 H3 Q1 else Q0 H3)
    (hd : ∀ H acc ds, Kp M H1 H → I H → H D = some (.lst acc) → DpAll K H acc ds → (∀ d ∈ ds, Gd d) → ds.length ≤ n → Qd H) :
    ∃ W : Nat → Nat → Hp → Prop, (∃ m, W 0 m (upd H1 D (.lst []))) ∧ ∀ i m H, W i m H →
      (J.stop i H ∧ Qd H) ∨ (J.go i H ∧ ∃ Nx : Hp → Prop, (∀ H', Nx H' → ∃ m', m' < m ∧ W (i + 1) m' H') ∧ ∀ x H', J.yld i H x H' → g x (wipe σ vs) H' fun σ2 H2 => wipe σ2 vs = wipe σ vs ∧ tt σ2 H2 fun b H3 =>
        if b = true then te σ2 H3 fun y H4 => ∃ acc, H4 D = some (.lst acc) ∧ acc.length < sizeLine ∧ Nx (upd H4 D (.lst (acc ++ [y]))) else Nx H3) := by
  have nM : ¬ M D := fun m => by
    obtain ⟨xs, e⟩ := hM D m
    rw [hD] at e
    cases e
  refine lc_it wk (fun i H => ∃ acc ds, Kp M H1 H ∧ I H ∧ H D = some (.lst acc) ∧ DpAll K H acc ds ∧ (∀ d ∈ ds, Gd d) ∧ ds.length ≤ i) ⟨[], [], Kp.new hM hD, h0, upd_same, .nil, (by intro d hd; cases hd), Nat.le_refl _⟩ (fun i H _ z => ?_) ?_ ?_
  · obtain ⟨acc, ds, s, iH, _⟩ := z
    exact hG H s iH
  · rintro i x H H' hi ⟨acc, ds, s, iH, hacc, ha, hg, hl⟩ y
    have fl : flatDs ds = true := flatDs_of _ fun d hd => hfl d (hg d hd)
    refine hs i x H H' hi s iH y _ _ (fun v H4 d e s4 i4 hv => ?_) (fun H3 s3 i3 => ?_)
    · have hD4 := s4.st _ _ nM hacc
      refine ⟨acc, hD4, ?_, acc ++ [v], ds ++ [d], (s.trans s4).mut hD, hI _ _ (s.trans s4) i4, upd_same, ?_, ?_, by rw [List.length_append]; exact Nat.succ_le_succ hl⟩
      · rw [DpAll.len ha]
        exact Nat.lt_of_le_of_lt hl (Nat.lt_of_lt_of_le (show i < 100000 by omega) (by decide))
      · exact DpAll.snoc (dp_keep (fun _ _ q => sqt_put hD4 q) _ _ (hfl d e) hv) (dps_keep (fun _ _ q => sqt_put hD4 q) _ _ fl (dps_keep (fun _ _ q => s4.tup q) _ _ fl ha))
      · intro d' hd'
        rcases List.mem_append.mp hd' with q | q
        · exact hg d' q
        · cases List.mem_singleton.mp q
          exact e
    · exact ⟨acc, ds, s.trans s3, i3, s3.st _ _ nM hacc, dps_keep (fun _ _ q => s3.tup q) _ _ fl ha, hg, by omega⟩
  · rintro H ⟨acc, ds, s, iH, hacc, ha, hg, hl⟩
    exact hd H acc ds s iH hacc ha hg hl
/-! ### data that repr takes -/
structure Sm (D W : Nat) (d : PyData) : Prop where
  ok : okD d = true
  dp : d.depth ≤ D
  wt : d.weight ≤ W
theorem Sm.mono {D W D' W' : Nat} {d : PyData} (x : Sm D W d) (h1 : D ≤ D') (h2 : W ≤ W') : Sm D' W' d := ⟨x.ok, Nat.le_trans x.dp h1, Nat.le_trans x.wt h2⟩
theorem sm_int {i : Int} (h : i.natAbs < 10 ^ 12) : Sm 0 64 (.int i) := ⟨by simp only [okD]; exact decide_eq_true h, by simp [PyData.depth], wt_int h⟩
theorem sm_all {D W : Nat} : ∀ {ds : List PyData}, (∀ d ∈ ds, Sm D W d) → okDs ds = true ∧ PyData.depthAll ds ≤ D ∧ PyData.weightAll ds ≤ ds.length * (W + 2)
  | [], _ => ⟨rfl, by simp [PyData.depthAll], by simp [PyData.weightAll]⟩
  | d :: ds, h => by
    have a := h d List.mem_cons_self
    obtain ⟨b1, b2, b3⟩ := sm_all (ds := ds) fun x hx => h x (List.mem_cons_of_mem _ hx)
    refine ⟨by simp [okDs, a.ok, b1], ?_, ?_⟩
    · have := a.dp
      simp only [PyData.depthAll]
      omega
    · have := a.wt
      simp only [PyData.weightAll, List.length_cons, Nat.add_mul]
      omega
theorem Sm.tuple {D W m : Nat} {ds : List PyData} (h : ∀ d ∈ ds, Sm D W d) (hm : ds.length ≤ m) : Sm (D + 1) (m * (W + 2)) (.tuple ds) := by
  obtain ⟨a, b, c⟩ := sm_all h
  refine ⟨by simpa [okD] using a, ?_, ?_⟩
  · simp only [PyData.depth]
    omega
  · simp only [PyData.weight]
    exact Nat.le_trans c (Nat.mul_le_mul_right _ hm)
theorem Sm.rep {K : PySem.W.Frag} {H : Hp} {x : V} {D W : Nat} {d : PyData} {Q : VK} (s : Sm D W d) (h1 : D ≤ 60) (h2 : W ≤ 2 ^ 20) (hd : Rp K H x d) (q : Q (.str d.shown) H) : rRepr K [x] H Q :=
  ⟨x, d, rfl, hd, s.ok, Nat.le_trans s.dp h1, Nat.le_trans s.wt h2, q⟩
theorem sm_kv {D W : Nat} : ∀ {es : List (Int × PyData)}, (∀ e ∈ es, e.1.natAbs < 10 ^ 12 ∧ Sm D W e.2) → okDk (es.map fun e => (PyData.int e.1, e.2)) = true ∧ PyData.depthKv (es.map fun e => (PyData.int e.1, e.2)) ≤ D ∧ PyData.weightKv (es.map fun e => (PyData.int e.1, e.2)) ≤ es.length * (W + 70)
  | [], _ => ⟨rfl, by simp [PyData.depthKv], by simp [PyData.weightKv]⟩
  | e :: es, h => by
    obtain ⟨a1, a⟩ := h e List.mem_cons_self
    obtain ⟨b1, b2, b3⟩ := sm_kv (es := es) fun x hx => h x (List.mem_cons_of_mem _ hx)
    have i := sm_int a1
    refine ⟨by simp [okDk, a.ok, b1, i.ok], ?_, ?_⟩
    · have := a.dp
      have := i.dp
      simp only [List.map_cons, PyData.depthKv]
      omega
    · have := a.wt
      have := i.wt
      simp only [List.map_cons, PyData.weightKv, List.length_cons, Nat.add_mul] at this ⊢
      omega
/-- what repr is asked of -/
def Rok (K : PySem.W.Frag) (H : Hp) (x : V) (d : PyData) : Prop := Rp K H x d ∧ okD d = true ∧ d.depth ≤ 60 ∧ d.weight ≤ 2 ^ 20
theorem Sm.rok {K : PySem.W.Frag} {H : Hp} {x : V} {D W : Nat} {d : PyData} (s : Sm D W d) (h1 : D ≤ 60) (h2 : W ≤ 2 ^ 20) (hd : Rp K H x d) : Rok K H x d :=
  ⟨hd, s.ok, Nat.le_trans s.dp h1, Nat.le_trans s.wt h2⟩
/-- the whole dict of things -/
theorem ThAt.rok {K : PySem.W.Frag} {H : Hp} {d : Addr} {es : List (Int × PyData)} {kvs : List (Key × V)} (x : ThAt K H d es kvs) {n : Nat} (hk : es.map (·.1) = births n) (hn : n ≤ 100) : Rok K H (.ref d) (PyData.dict (es.map fun e => (PyData.int e.1, e.2))) := by
  obtain ⟨a, b, c⟩ := sm_kv (D := 8) (W := 4000) (es := es) fun e he => by
    have m : e.1 ∈ births n := by rw [← hk]; exact List.mem_map.mpr ⟨e, he, rfl⟩
    have := births_mem.mp m
    exact ⟨by omega, ⟨(x.th e he).ok, (x.th e he).dp, (x.th e he).wt⟩⟩
  have hl : es.length = n := by
    have e := congrArg List.length hk
    rw [List.length_map, births_len] at e
    exact e
  refine ⟨.inr ⟨d, kvs, es, rfl, x.at_, x.ks, x.vs, x.fl, rfl⟩, by simpa [okD] using a, ?_, ?_⟩
  · simp only [PyData.depth]
    omega
  · simp only [PyData.weight]
    refine Nat.le_trans c ?_
    rw [hl]
    exact Nat.le_trans (Nat.mul_le_mul_right _ hn) (by decide)
end Cm

/-! defs that may ask repr, called by name where nothing is under repr -/
namespace Cm
open PySem L2 PySem.Spec PyProof.Rows
structure ClG (P : Program) (w : World) (K : PySem.W.Frag) (mg : Str → Option Value) (base : Heap) (k : Nat) (x : Str) (sp : Sp) : Prop where
  ex : ∃ (f : Addr) (fd : FuncData) (ps : List Str), (∀ vs H Q E, sp vs H Q E → vs.length = ps.length) ∧ LawAt P w K mg base k f fd ps sp ∧ mg x = some (.ref f) ∧ PySem.W.keepIn K (.ref f) = true ∧ Binds K fd ps []
section
variable {P : Program} {w : World} {K : PySem.W.Frag} {mg : Str → Option Value} {base : Heap}
theorem clG_of {x : Str} {st : Stmt} {N ps : List Str} {k : Nat} {sp : Sp} (T : At K mg x st ps) (S : FnScope N ps (defScope st))
    (len : ∀ vs H Q E, sp vs H Q E → vs.length = ps.length)
    (hb : ∀ (f : Addr) (cdv : Value) (A : Around) (outer : List Env) (s : Shared) (H : Hp) (vs : List V) (Q : VK) (E : XK), (A.deeper (envOfC x (defScope st) s.heap.objs.size f cdv)).guards = some [] →
      Room k (A.deeper (envOfC x (defScope st) s.heap.objs.size f cdv)) → sp vs H Q E →
      ∃ t, PSs (cxOf CX0 P w K mg base N x (defScope st) f cdv A outer s H E).nox (defBody st) t ∧ t { nx := fun _ H' => Q .non H', rt := Q } (start N vs) H) :
    ClG P w K mg base (k + 1) x sp := by
  obtain ⟨f, fd, F, hm, b⟩ := T.ex
  exact ⟨f, fd, ps, len, lawAt_of F S len fun cdv A outer s H vs Q E hg => hb f cdv A outer s H vs Q E hg, hm, F.kp, b⟩
end
section
variable {X : Cx} {j k : Nat} {x : Str} {sp : Sp} {e : Expr} {es : List Expr} {t : TA} {p pos : Pos}
theorem pe_cG (c : ClG X.prog X.w X.K X.mg X.base k x sp) (hgd : X.A.guards = some []) (hr : Room j X.A) (hk : k ≤ j) (hg : Gl X x) (ha : PA X (e :: es) t)
    (hdb : (x == ("__debug__" : Str)) = false := by decide) (he : starEach (e :: es) X.env = (false, eval e X.env) :: starEach es X.env := by rfl)
    (hpl : (backTo pos (starEach es X.env)).any (·.1) = false := by rfl) : PE X (.Call (.Name x p) (e :: es) [] pos) (tCall sp [] E0 t) := by
  obtain ⟨f, fd, ps, len, F, hm, kp, b⟩ := c.ex
  refine ⟨fun pins s σ H Q I h => ?_⟩
  refine wpAny_Call_Name_kw (ld_glob I hg hm ?_ hdb)
  refine PySem.W.callWith_K (h₀ := X.base) I.ok.mod.kin kp (thn (ha.run pos pins s σ H _ I h) fun us s1 ⟨vs, H1, I1, r, q⟩ => ⟨I1.kIn, ?_⟩) he hpl
  have q' : sp vs H1 Q E0 := by
    have q0 : sp (vs ++ []) H1 Q E0 := q
    rwa [List.append_nil] at q0
  have hl : us.length = ps.length := by rw [← r.length]; exact len _ _ _ _ q'
  have hb := b s1 us I1.kIn (by rw [List.append_nil]; exact hl)
  rw [List.append_nil] at hb
  refine wpAny_call (codeAny_mono (F X.A X.stack s1 H1 ⟨us, []⟩ us vs Q E0 hgd (hr.mono hk) I1.env0 hb r q') fun r s' hq => ?_)
  cases r with
  | error e => exact pass0 pins σ H1 s1 e s' I1 hq
  | ok fl =>
    cases fl with
    | ret u => exact I1.after hq
    | next => exact False.elim hq
    | brk => exact False.elim hq
    | cont => exact False.elim hq
end
/-! ### a walk over a list or a tuple -/
def iSeq (K : PySem.W.Frag) (tl : TE) : TI := fun σ H R => tl σ H fun x H1 => ∃ a, x = .ref a ∧ ((∃ xs, SqL K H1 a xs) ∧ R (Itl K a) H1 ∨ (∃ xs, SqT K H1 a xs) ∧ R (Itt K a) H1)
theorem pi_seq {X : Cx} {tg l : Expr} {tl : TE} (hl : PE X l tl) : PI X tg l (iSeq X.K tl) := by
  refine ⟨fun pins s σ H R I h => ?_⟩
  refine thn (hl.run pins s σ H _ I h) fun v s1 ⟨x, H1, I1, r1, q1⟩ => ?_
  obtain ⟨a, rfl, q1⟩ := q1
  cases r1
  have fp : ∀ b ∈ [s1.heap.objs.size], b = s1.heap.objs.size := fun b hb => by simpa using hb
  rcases q1 with ⟨⟨xs, hq⟩, q⟩ | ⟨⟨xs, hq⟩, q⟩
  · obtain ⟨its, rv, p, hz⟩ := I1.list hq
    refine wpAny_pyIter_list p.isList ?_
    refine ⟨_, _, _, _, H1, rfl, I1.kept (t' := s1.toks) fun b o e => Heap.get?_push_of_some _ e, turn_list a _, ⟨_, Heap.get?_push_size _ rfl, rfl, rfl⟩, fun b hb => ?_, q⟩
    cases fp b hb
    exact I1.fpOk (Nat.le_refl _) (I1.hok.fresh (Nat.le_refl _))
  · obtain ⟨its, rv, p, hz⟩ := I1.tuple hq
    refine wpAny_pyIter_tuple (show s1.heap.IsTuple a its.toArray from p) ?_
    refine ⟨_, _, _, _, H1, rfl, I1.kept (t' := s1.toks) fun b o e => Heap.get?_push_of_some _ e, turn_tuple a _, ⟨_, Heap.get?_push_size _ rfl, rfl, rfl⟩, fun b hb => ?_, q⟩
    cases fp b hb
    exact I1.fpOk (Nat.le_refl _) (I1.hok.fresh (Nat.le_refl _))
theorem ks_tupA {X : Cx} {K : PySem.W.Frag} (h : X.K = K := by rfl) : SlR X (rSlA K) := by subst h; exact sl_tupA
theorem ne_same (x : V) : (!decide (x = x)) = false := by simp
theorem tyx_tup {K : PySem.W.Frag} {H : Hp} {a : Addr} {xs : List V} (h : SqT K H a xs) : TyX K H (.ref a) (.type "tuple") := by
  rcases h with (h | ⟨o, h⟩) | ⟨o, its, n, e, c, _⟩
  · exact .base (.tup h)
  · exact .fTuple h
  · exact .kTuple e c
theorem kit_tup {K : PySem.W.Frag} : PySem.W.kitOne K (.type "tuple") (.type "tuple") = some true := by rfl
end Cm

namespace K12
open PySem L2 Cm
def top (i : Nat) : Stmt := PySem.Challenge.pw_goonagain_k12_bounces_cut_and_gone_on.main.body.getD i (.Pass ⟨0, 0, 0, 0⟩)
structure Txt (mg : Str → Option Value) : Prop where
  abs : mg "abs" = none
  enumerate : mg "enumerate" = none
  int : mg "int" = none
  isinstance : mg "isinstance" = none
  len : mg "len" = none
  min : mg "min" = none
  range : mg "range" = none
  tuple : mg "tuple" = none
section
variable {P : Program} {w : World} {K : PySem.W.Frag} {mg : Str → Option Value} {base : Heap}
-- mix
abbrev s_l_mix : Stmt := top 4
abbrev N_l_mix : List Str := ["_law_number", "_law_turn", "_law_once", "_law_twice"]
theorem sc_l_mix : FnScope N_l_mix ["_law_number", "_law_turn"] (defScope s_l_mix) := ⟨rfl, rfl, rfl, by decide +kernel, rfl, by decide +kernel, by decide +kernel⟩
theorem ok_mix (T : Txt mg) (D : At K mg "_law_mix" s_l_mix ["_law_number", "_law_turn"]) : Cl P w K mg base 1 "_law_mix" spMix := by
  refine cl_of D sc_l_mix (fun vs H Q E h => ?_) fun f cdv A outer s H vs Q E hr h => ?_
  · obtain ⟨a, b, rfl, _⟩ := h
    rfl
  · obtain ⟨a, b, rfl, k⟩ := h
    refine ⟨_, (pss_cons (ps_set (i := 2) sc_l_mix.nd rfl (Or.inl rfl) (pe_op op_mod (pe_callTy call_int1 (by rfl) T.int (by decide +kernel) (pa_cons (pe_op op_add (pe_op op_add (pe_op op_mul (pv 0) pe_int) (pe_op op_mul (pv 1) pe_int)) pe_int) pa_nil)) pe_int))
      (pss_cons (ps_set (i := 3) sc_l_mix.nd rfl (Or.inl rfl) (pe_op op_mod (pe_callTy call_int1 (by rfl) T.int (by decide +kernel) (pa_cons (pe_op op_add (pe_op op_add (pe_op op_mul (pv 2) (pv 2)) (pe_op op_mul (pe_op op_fdiv (pv 2) pe_int) pe_int)) (pe_op op_mul (pv 1) pe_int)) pa_nil)) pe_int))
      (pss_one (ps_ret (pe_op op_fdiv (pe_op op_mod (pe_callTy call_int1 (by rfl) T.int (by decide +kernel) (pa_cons (pe_op op_add (pe_op op_fdiv (pe_op op_mul (pv 3) (pv 3)) pe_int) (pv 2)) pa_nil)) pe_int) pe_int))))), ?_⟩
    refine ⟨_, rfl, _, _, rfl, rfl, .inr (by decide), ?_⟩
    refine ⟨_, rfl, _, _, rfl, rfl, .inr (by decide), ?_⟩
    refine ⟨_, _, rfl, rfl, _, _, rfl, rfl, .inl ⟨_, rfl, _, _, rfl, rfl, (by show (0 : Int) < _; decide), ?_⟩⟩
    generalize hx : (a * 48271 + b * 16807 + 11) % 2147483647 = x
    have x0 : 0 ≤ x := by omega
    have x1 : x < 2147483647 := by omega
    clear hx
    refine ⟨_, rfl, _, rfl, _, _, rfl, rfl, .inl ⟨by omega, by omega⟩, ?_⟩
    refine ⟨_, rfl, _, _, rfl, rfl, ⟨by decide, by decide⟩, _, _, rfl, rfl, .inr (by decide), ?_⟩
    refine ⟨_, _, rfl, rfl, _, rfl, _, _, rfl, rfl, .inr (by decide), _, _, rfl, rfl, .inl ⟨_, rfl, _, _, rfl, rfl, (by show (0 : Int) < _; decide), ?_⟩⟩
    generalize hy : (x * x + x / 127 * 40692 + b * 69621) % 2147483399 = y
    have y0 : 0 ≤ y := by omega
    have y1 : y < 2147483399 := by omega
    clear hy
    refine ⟨_, rfl, _, rfl, _, _, rfl, rfl, .inl ⟨by omega, by omega⟩, _, _, rfl, rfl, ⟨by decide, by decide⟩, ?_⟩
    refine ⟨_, rfl, _, _, rfl, rfl, .inl ⟨_, rfl, _, _, rfl, rfl, (by show (0 : Int) < _; decide), _, _, rfl, rfl, ⟨by decide, by decide⟩, ?_⟩⟩
    exact k _
-- hand
abbrev s_l_hand : Stmt := top 5
abbrev N_l_hand : List Str := ["_law_script", "_law_total", "_law_k", "_law_cell"]
theorem sc_l_hand : FnScope N_l_hand ["_law_script"] (defScope s_l_hand) := ⟨rfl, rfl, rfl, by decide +kernel, rfl, by decide +kernel, by decide +kernel⟩
theorem ok_hand (T : Txt mg) (D : At K mg "_law_hand" s_l_hand ["_law_script"]) : Cl P w K mg base 1 "_law_hand" (spHand K) := by
  refine cl_of D sc_l_hand (fun vs H Q E h => ?_) fun f cdv A outer s H vs Q E hr h => ?_
  · obtain ⟨a, ns, rfl, _⟩ := h
    rfl
  · obtain ⟨a, ns, rfl, hS, hlen, k⟩ := h
    refine ⟨_, (pss_cons (ps_set (i := 1) sc_l_hand.nd rfl (Or.inl rfl) pe_int)
      (pss_cons (ps_for PassesOwn.never rfl (pi_enum (by rfl) T.enumerate (pa_cons (pv 0) pa_nil)) (pg_tup (by rfl) (pgs_cons (pg_name (i := 2) sc_l_hand.nd rfl (Or.inl rfl)) (pgs_cons (pg_name (i := 3) sc_l_hand.nd rfl (Or.inl rfl)) pgs_nil)))
        (pss_one (ps_set (i := 1) sc_l_hand.nd rfl (Or.inl rfl) (pe_op op_mod (pe_callTy call_int1 (by rfl) T.int (by decide +kernel) (pa_cons (pe_op op_add (pe_op op_mul (pv 1) pe_int) (pe_op op_mul (pe_callTy call_int1 (by rfl) T.int (by decide +kernel) (pa_cons (pv 3) pa_nil)) (pe_op op_add (pv 2) pe_int))) pa_nil)) pe_int))))
      (pss_one (ps_ret (pe_lst (pa_cons (pe_lc (own := [("_law_cell", 3)]) rfl sc_l_hand.nd (pi_list (pv 0)) (blkOk_by (N := N_l_hand) (sc := defScope s_l_hand) (by decide +kernel))
      (fun _ _ _ _ _ => (pg_name (i := 3) sc_l_hand.nd rfl (Or.inl rfl)))
      (fun _ _ _ _ _ => pts_nil)
      (fun _ _ _ _ _ => (pe_callB call_abs (by rfl) T.abs (by decide +kernel) (pa_cons (pe_callTy call_int1 (by rfl) T.int (by decide +kernel) (pa_cons (pv 3) pa_nil)) pa_nil)))) (pa_cons pe_int (pa_cons pe_int (pa_cons (pv 1) pa_nil))))))))), ?_⟩
    refine ⟨_, rfl, a, _, rfl, hS, ?_⟩
    refine for_it (walk_enum (xs := ns.map V.int)) (fun i σ H' => ∃ (t : Int) (v2 v3 : Option V), σ = [some (.ref a), some (.int t), v2, v3] ∧ Same H H') ⟨0, none, none, rfl, Same.refl H⟩ (fun i σ H' _ z => ?_) ?_ ?_
    · obtain ⟨t, v2, v3, rfl, s1⟩ := z
      exact s1.seq hS
    · rintro i x σ H1 H2 hi ⟨t, v2, v3, rfl, s1⟩ ⟨T1, x1, x2, rfl, hT, rfl, e1, e2⟩
      cases e1
      obtain ⟨n, en, rfl⟩ := map_at e2
      refine ⟨T1, _, rfl, .inl (.inl upd_same), rfl, _, _, rfl, _, _, rfl, rfl, ?_⟩
      refine ⟨_, rfl, _, _, rfl, rfl, .inr (by decide), _, rfl, .inl ⟨_, rfl, ?_⟩⟩
      refine ⟨_, rfl, _, _, rfl, rfl, _, _, rfl, rfl, .inr ⟨?_, ?_⟩, ?_⟩
      · rw [List.length_map] at hi
        omega
      · rw [List.length_map] at hi
        omega
      refine ⟨_, _, rfl, rfl, .inl ⟨_, rfl, _, _, rfl, rfl, (by show (0 : Int) < _; decide), ?_⟩⟩
      exact ⟨_, _, _, rfl, s1.trans (same_new hT)⟩
    · rintro σ H1 ⟨t, v2, v3, rfl, s1⟩
      refine ⟨_, rfl, a, rfl, ⟨_, s1.seq hS⟩, fun D hD => ?_⟩
      refine lc_it (walk_list (xs := ns.map V.int)) (fun i H' => ∃ acc : List Int, Same H1 H' ∧ H' D = some (.lst (acc.map V.int)) ∧ acc.length = i) ⟨[], same_new hD, upd_same, rfl⟩ (fun i H' _ z => ?_) ?_ ?_
      · obtain ⟨acc, s2, _⟩ := z
        exact (s1.trans s2).seq hS
      · rintro i x H2 H3 hi ⟨acc, s2, hacc, hl⟩ ⟨rfl, e2⟩
        obtain ⟨n, en, rfl⟩ := map_at e2
        rw [List.length_map] at hi
        refine ⟨rfl, ?_⟩
        refine ⟨_, rfl, .inl ⟨_, rfl, _, rfl, _, hacc, ?_, ?_⟩⟩
        · rw [List.length_map]
          exact Nat.lt_of_lt_of_le (show acc.length < 63 by omega) (by decide)
        · refine ⟨acc ++ [if n < 0 then -n else n], fun b o e => ?_, ?_, ?_⟩
          · have hb : b ≠ D := ne_of_none e hD
            rw [upd_ne hb]
            exact s2 b o e
          · rw [upd_same, List.map_append]
            rfl
          · rw [List.length_append, hl]
            rfl
      · rintro H2 ⟨acc, s2, hacc, hl⟩
        refine ⟨_, rfl, by show 4 ≤ sizeLine; decide, fun p hp => ?_⟩
        rw [List.length_map] at hl
        have npD : D ≠ p := ne_of_none hacc hp
        refine k p D _ ((s1.trans s2).trans (same_new hp)) ((s1.trans s2).free hp) (s1.free hD) ⟨acc, _, _, _, upd_same, ?_, npD, Int.le_refl 0, by omega⟩
        rw [upd_ne npD]
        exact hacc
end
section
variable {P : Program} {w : World} {K : PySem.W.Frag} {mg : Str → Option Value} {base : Heap}
abbrev s_l_draw : Stmt := top 6
abbrev N_l_draw : List Str := ["_law_hand_here", "_law_many", "_law_cell", "_law_rest"]
theorem sc_l_draw : FnScope N_l_draw ["_law_hand_here", "_law_many"] (defScope s_l_draw) := ⟨rfl, rfl, rfl, by decide +kernel, rfl, by decide +kernel, by decide +kernel⟩
theorem ok_draw (T : Txt mg) (c_l_mix : Cl P w K mg base 1 "_law_mix" spMix) (D : At K mg "_law_draw" s_l_draw ["_law_hand_here", "_law_many"]) : Cl P w K mg base 2 "_law_draw" spDraw := by
  refine cl_of D sc_l_draw (fun vs H Q E h => ?_) fun f cdv A outer s H vs Q E hr h => ?_
  · obtain ⟨h, c, m, rfl, _⟩ := h
    rfl
  · obtain ⟨h, c, m, rfl, ⟨cells, i, b, t, e1, e2, nch, hi, hlen⟩, hm0, hm1, k⟩ := h
    refine ⟨_, (pss_mid (ps_if (PW.pt (pw_and (pt_cmpR op_eq (pe_ix ix_list (pv 0) pe_int (fun _ _ => rfl)) pe_int (nomark _)) (pw_and1 (pt_cmpR op_lt (pe_ix ix_list (pv 0) pe_int (fun _ _ => rfl)) (pe_callB call_len_seq (by rfl) T.len (by decide +kernel) (pa_cons (pe_ix ix_list (pv 0) pe_int (fun _ _ => rfl)) pa_nil)) (nomark _)))))
        (pss_cons (ps_set (i := 2) sc_l_draw.nd rfl (Or.inl rfl) (pe_ix ix_list (pe_ix ix_list (pv 0) pe_int (fun _ _ => rfl)) (pe_ix ix_list (pv 0) pe_int (fun _ _ => rfl)) (fun _ _ => rfl)))
        (pss_cons (ps_asg (pe_op op_add (pe_ix ix_list (pv 0) pe_int (fun _ _ => rfl)) pe_int) (pg_sub (pv 0) pe_int set_list))
        (pss_cons (ps_if (pt_cmpR op_lt (pv 2) (pe_op op_pow pe_int pe_int) (nomark _))
          (pss_one (ps_ret (pe_op op_mod (pe_callTy call_int1 (by rfl) T.int (by decide +kernel) (pa_cons (pe_c c_l_mix hr (by decide) (by rfl) (pa_cons (pe_op op_mod (pe_callTy call_int1 (by rfl) T.int (by decide +kernel) (pa_cons (pv 2) pa_nil)) pe_int) (pa_cons (pe_ix ix_list (pv 0) pe_int (fun _ _ => rfl)) pa_nil))) pa_nil)) (pv 1))))
          pss_nil)
        (pss_one (ps_asg (pv 2) (pg_sub (pv 0) pe_int set_list))))))
        pss_nil)
      (pss_cons (ps_if (pt_cmpR op_gt (pe_ix ix_list (pv 0) pe_int (fun _ _ => rfl)) pe_int (nomark _))
        (pss_cons (ps_set (i := 3) sc_l_draw.nd rfl (Or.inl rfl) (pe_ix ix_list (pv 0) pe_int (fun _ _ => rfl)))
        (pss_cons (ps_asg (pe_op op_fdivW (pv 3) (pv 1)) (pg_sub (pv 0) pe_int set_list))
        (pss_one (ps_ret (pe_op op_mod (pe_callTy call_int1 (by rfl) T.int (by decide +kernel) (pa_cons (pv 3) pa_nil)) (pv 1))))))
        pss_nil)
      (pss_cons (ps_asg (pe_op op_mod (pe_callTy call_int1 (by rfl) T.int (by decide +kernel) (pa_cons (pe_op op_add (pe_ix ix_list (pv 0) pe_int (fun _ _ => rfl)) pe_int) pa_nil)) pe_int) (pg_sub (pv 0) pe_int set_list))
      (pss_one (ps_ret (pe_op op_mod (pe_callTy call_int1 (by rfl) T.int (by decide +kernel) (pa_cons (pe_c c_l_mix hr (by decide) (by rfl) (pa_cons (pe_ix ix_list (pv 0) pe_int (fun _ _ => rfl)) (pa_cons (pe_ix ix_list (pv 0) pe_int (fun _ _ => rfl)) pa_nil))) pa_nil)) (pv 1))))))), ?_⟩
    have big : CDivW b m := wide_div (b := 100) hm0 (by omega) (by decide) (by decide)
    have kh0 : ∀ {ys : List V}, Kh h H (upd H h (.lst ys)) := Kp.put (fun a ha => by rw [ha]; exact ⟨_, e1⟩) rfl
    refine ⟨fun σ' H' => ∃ (i b t : Int) (v2 v3 : Option V), σ' = [some (.ref h), some (.int m), v2, v3] ∧ Kh h H H' ∧ H' h = some (.lst [.ref c, .int i, .int b, .int t]) ∧ H' c = some (.lst (cells.map V.int)) ∧ 0 ≤ i, ?_, ?_⟩
    · refine ⟨_, rfl, _, _, _, _, rfl, rfl, .inl (.inl e1), rfl, rfl, _, rfl, ?_⟩
      refine ite2 (fun _ => ?_) (fun _ => ?_)
      · refine ⟨_, rfl, _, _, _, _, rfl, rfl, .inl (.inl e1), rfl, _, rfl, _, _, _, _, rfl, rfl, .inl (.inl e1), rfl, c, _, rfl, .inl (.inl (.inl e2)), _, _, rfl, rfl, _, rfl, ?_⟩
        refine ite2 (fun hlt => ?_) (fun _ => ?_)
        · have hlt' : i < (cells.length : Int) := by
            have := of_decide_eq_true hlt
            rw [List.length_map] at this
            exact this
          obtain ⟨j, rfl⟩ : ∃ j : Nat, i = (j : Int) := ⟨i.toNat, by omega⟩
          have hj : j < cells.length := by omega
          have hat : atI (cells.map V.int) (j : Int) = some (.int cells[j]) := atI_nat (by rw [List.getElem?_map, List.getElem?_eq_getElem hj]; rfl)
          refine ⟨_, rfl, _, _, _, _, rfl, rfl, .inl (.inl e1), rfl, _, rfl, _, _, _, _, rfl, rfl, .inl (.inl e1), rfl, c, _, _, _, rfl, rfl, .inl (.inl e2), hat, ?_⟩
          refine ⟨_, rfl, _, _, _, _, rfl, rfl, .inl (.inl e1), rfl, _, _, rfl, rfl, _, rfl, h, _, _, 1, rfl, rfl, e1, rfl, ?_⟩
          have e2' : upd H h (.lst [.ref c, .int ((j : Int) + 1), .int b, .int t]) c = some (.lst (cells.map V.int)) := by rw [upd_ne nch]; exact e2
          refine ⟨_, rfl, _, _, rfl, rfl, ⟨by decide, by decide, by decide⟩, _, _, rfl, rfl, _, rfl, ?_⟩
          refine ite2 (fun _ => ?_) (fun _ => ?_)
          · refine ⟨_, rfl, .inl ⟨_, rfl, _, _, rfl, rfl, (by show (0 : Int) < _; decide), _, rfl, _, _, _, _, rfl, rfl, .inl (.inl upd_same), rfl, ?_⟩⟩
            refine ⟨_, _, rfl, fun n => .inl ⟨_, rfl, _, rfl, _, _, rfl, rfl, hm0, ?_⟩⟩
            exact k _ _ (Int.emod_nonneg _ (by omega)) (Int.emod_lt_of_pos _ hm0) kh0 ⟨cells, _, _, _, upd_same, e2', nch, by omega, hlen⟩
          · refine ⟨_, rfl, _, rfl, h, _, _, 2, rfl, rfl, upd_same, rfl, ?_⟩
            rw [upd_upd]
            exact ⟨_, _, _, _, _, rfl, kh0, upd_same, by rw [upd_ne nch]; exact e2, by omega⟩
        · exact ⟨i, b, t, _, _, rfl, Kp.refl (fun a ha => by rw [ha]; exact ⟨_, e1⟩), e1, e2, hi⟩
      · exact ⟨i, b, t, _, _, rfl, Kp.refl (fun a ha => by rw [ha]; exact ⟨_, e1⟩), e1, e2, hi⟩
    · rintro σ' H' ⟨i, b, t, v2, v3, rfl, kh, e1, e2, hi⟩
      have kh1 : ∀ {ys : List V}, Kh h H (upd H' h (.lst ys)) := kh.trans (Kp.put (fun a ha => by rw [ha]; exact ⟨_, e1⟩) rfl)
      refine ⟨_, rfl, _, _, _, _, rfl, rfl, .inl (.inl e1), rfl, _, _, rfl, rfl, _, rfl, ?_⟩
      refine ite2 (fun _ => ?_) (fun _ => ?_)
      · refine ⟨_, rfl, _, _, _, _, rfl, rfl, .inl (.inl e1), rfl, _, rfl, _, rfl, _, _, rfl, rfl, big, _, rfl, h, _, _, 2, rfl, rfl, e1, rfl, ?_⟩
        refine ⟨_, rfl, .inl ⟨_, rfl, _, rfl, _, _, rfl, rfl, hm0, ?_⟩⟩
        exact k _ _ (Int.emod_nonneg _ (by omega)) (Int.emod_lt_of_pos _ hm0) kh1 ⟨cells, _, _, _, upd_same, by rw [upd_ne nch]; exact e2, nch, hi, hlen⟩
      · refine ⟨_, rfl, _, _, _, _, rfl, rfl, .inl (.inl e1), rfl, _, _, rfl, rfl, .inl ⟨_, rfl, _, _, rfl, rfl, (by show (0 : Int) < _; decide), _, rfl, h, _, _, 3, rfl, rfl, e1, rfl, ?_⟩⟩
        refine ⟨_, rfl, _, _, _, _, rfl, rfl, .inl (.inl upd_same), rfl, _, rfl, _, _, _, _, rfl, rfl, .inl (.inl upd_same), rfl, ?_⟩
        refine ⟨_, _, rfl, fun n => .inl ⟨_, rfl, _, rfl, _, _, rfl, rfl, hm0, ?_⟩⟩
        exact k _ _ (Int.emod_nonneg _ (by omega)) (Int.emod_lt_of_pos _ hm0) kh1 ⟨cells, _, _, _, upd_same, by rw [upd_ne nch]; exact e2, nch, hi, hlen⟩
end
end K12

/-! a for over a list or a tuple, as one -/
namespace Cm
open PySem L2 PySem.Spec PyProof.Rows
theorem for_seq {K : PySem.W.Frag} {tl : TE} {g : TG} {tb : TS} {D : Ends} {σ : L2.St} {H Hb : Hp} {a : Addr} {xs : List V} (ht : ∀ Q : VK, Q (.ref a) H → tl σ H Q) (ha : SqL K Hb a xs ∨ SqT K Hb a xs)
    (Pv : Nat → L2.St → Hp → Prop) (h0 : Pv 0 σ H) (hG : ∀ i σ H', Pv i σ H' → Same Hb H')
    (hs : ∀ i x σ H1, i < xs.length → Pv i σ H1 → xs[i]? = some x → g x σ H1 fun σ2 H2 => tb { D with nx := Pv (i + 1), ct := Pv (i + 1), bk := D.nx } σ2 H2) (hd : ∀ σ H1, Pv xs.length σ H1 → D.nx σ H1) :
    tFor (iSeq K tl) g tb D σ H := by
  refine ht _ ⟨a, rfl, ?_⟩
  rcases ha with ha | ha
  · refine .inl ⟨⟨_, (hG _ _ _ h0).seq ha⟩, for_it (walk_list (xs := xs)) Pv h0 (fun i σ H' hi z => (hG i σ H' z).seq ha) (fun i x σ H1 H2 hi z y => ?_) hd⟩
    obtain ⟨rfl, e⟩ := y
    exact hs i x σ _ hi z e
  · refine .inr ⟨⟨_, sqt_same (hG _ _ _ h0) ha⟩, for_it (walk_tup (xs := xs)) Pv h0 (fun i σ H' hi z => sqt_same (hG i σ H' z) ha) (fun i x σ H1 H2 hi z y => ?_) hd⟩
    obtain ⟨rfl, e⟩ := y
    exact hs i x σ _ hi z e
end Cm

/-! trees of forms: a head and its parts; how they lie in tuples -/
namespace Cm
open PySem L2 PySem.Spec PyProof.Rows
inductive Hd where
  | num (i : Int)
  | name (x : Str)
  | lit (w : Str)
  | one (w x : Str)
  | fn (xs : List Str)
  | bind (w : Str) (xs : List Str)
  | doo
  | call
  | op (o : Str)
  | plain (w : Str)
inductive Tr where
  | mk (h : Hd) (ps : List Tr)
def encs (xs : List Str) : PyData := .tuple (xs.map PyData.str)
def rowD (p : Str × PyData) : PyData := .tuple [.str p.1, p.2]
def encH : Hd → List PyData → PyData
  | .num i, _ => .tuple [.str "number", .int i]
  | .name x, _ => .tuple [.str "name", .str x]
  | .lit w, _ => .tuple [.str w]
  | .one w x, ds => .tuple (.str w :: .str x :: ds)
  | .fn xs, ds => .tuple (.str "fn" :: encs xs :: ds)
  | .bind w xs, ds => .tuple (.str w :: .tuple ((xs.zip ds).map rowD) :: ds.drop xs.length)
  | .doo, ds => .tuple [.str "do", .tuple ds]
  | .call, ds => .tuple (.str "call" :: (ds.take 1 ++ [.tuple (ds.drop 1)]))
  | .op o, ds => .tuple [.str "op", .str o, .tuple ds]
  | .plain w, ds => .tuple (.str w :: ds)
mutual
def Tr.enc : Tr → PyData
  | .mk h ps => encH h (Tr.encL ps)
def Tr.encL : List Tr → List PyData
  | [] => []
  | t :: ts => t.enc :: Tr.encL ts
end
mutual
def Tr.dep : Tr → Nat
  | .mk _ ps => Tr.deps ps + 1
def Tr.deps : List Tr → Nat
  | [] => 0
  | t :: ts => max t.dep (Tr.deps ts)
end
def litW : List Str := ["true", "false", "none", "ask"]
def oneW : List Str := ["set", "keep", "once", "take"]
def bindW : List Str := ["let", "rec"]
def plainW : List Str := ["if", "mark", "wind", "show"]
abbrev sok (x : Str) : Prop := PyData.strOk x = true
def hok : Hd → Nat → Prop
  | .num _, n => n = 0
  | .name x, n => n = 0 ∧ sok x
  | .lit w, n => n = 0 ∧ w ∈ litW
  | .one w x, n => n = 1 ∧ w ∈ oneW ∧ sok x
  | .fn xs, n => n = 1 ∧ xs.length ≤ 100 ∧ ∀ x ∈ xs, sok x
  | .bind w xs, n => n = xs.length + 1 ∧ w ∈ bindW ∧ ∀ x ∈ xs, sok x
  | .doo, _ => True
  | .call, n => 1 ≤ n
  | .op o, _ => sok o
  | .plain w, _ => w ∈ plainW
mutual
def Tr.ok : Tr → Prop
  | .mk h ps => hok h ps.length ∧ ps.length ≤ 11 ∧ Tr.oks ps
def Tr.oks : List Tr → Prop
  | [] => True
  | t :: ts => t.ok ∧ Tr.oks ts
end
theorem encL_map : ∀ ps : List Tr, Tr.encL ps = ps.map Tr.enc
  | [] => rfl
  | t :: ts => by
    show t.enc :: Tr.encL ts = _
    rw [encL_map ts]
    rfl
theorem encL_len (ps : List Tr) : (Tr.encL ps).length = ps.length := by rw [encL_map, List.length_map]
theorem deps_le {n : Nat} : ∀ {ps : List Tr}, Tr.deps ps ≤ n ↔ ∀ t ∈ ps, t.dep ≤ n
  | [] => by simp [Tr.deps]
  | t :: ts => by
    have := deps_le (n := n) (ps := ts)
    show max t.dep (Tr.deps ts) ≤ n ↔ _
    rw [Nat.max_le, this]
    simp
theorem oks_iff : ∀ {ps : List Tr}, Tr.oks ps ↔ ∀ t ∈ ps, t.ok
  | [] => by simp [Tr.oks]
  | t :: ts => by
    show t.ok ∧ Tr.oks ts ↔ _
    rw [oks_iff]
    simp
theorem dep_mk {h : Hd} {ps : List Tr} {n : Nat} : (Tr.mk h ps).dep ≤ n + 1 ↔ ∀ t ∈ ps, t.dep ≤ n := by
  show Tr.deps ps + 1 ≤ n + 1 ↔ _
  rw [← deps_le]
  omega
/-- trees by their depth -/
theorem tr_ind {P : Tr → Prop} (h : ∀ hd ps, (∀ t ∈ ps, P t) → P (.mk hd ps)) (t : Tr) : P t := by
  have key : ∀ n, ∀ t : Tr, t.dep ≤ n → P t := by
    intro n
    induction n with
    | zero =>
      intro t ht
      cases t with
      | mk hd ps => exact absurd ht (by show ¬ (Tr.deps ps + 1 ≤ 0); omega)
    | succ n ih =>
      intro t ht
      cases t with
      | mk hd ps => exact h hd ps fun t m => ih t (dep_mk.mp ht t m)
  exact key t.dep t (Nat.le_refl _)
theorem flat_strs (xs : List Str) : flatDs (xs.map PyData.str) = true := flatDs_of _ fun d hd => by
  obtain ⟨x, _, rfl⟩ := List.mem_map.mp hd
  rfl
theorem flat_encH {h : Hd} {ds : List PyData} (f : flatDs ds = true) : flatD (encH h ds) = true := by
  have fd := flatDs_all f
  cases h with
  | num i => rfl
  | name x => rfl
  | lit w => rfl
  | one w x => show flatDs (_ :: _ :: ds) = true; simpa [flatDs, flatD] using f
  | fn xs => show flatDs (_ :: encs xs :: ds) = true; simp [flatDs, flatD, encs, flat_strs, f]
  | bind w xs =>
    show flatDs (_ :: _ :: ds.drop xs.length) = true
    have h1 : flatDs (ds.drop xs.length) = true := flatDs_of _ fun d hd => fd d (List.mem_of_mem_drop hd)
    have h2 : flatDs ((xs.zip ds).map rowD) = true := flatDs_of _ fun d hd => by
      obtain ⟨p, hp, rfl⟩ := List.mem_map.mp hd
      have := fd p.2 (List.of_mem_zip (show (p.1, p.2) ∈ xs.zip ds from hp)).2
      simp [rowD, flatD, flatDs, this]
    simp [flatDs, flatD, h1, h2]
  | doo => show flatDs [_, .tuple ds] = true; simp [flatDs, flatD, f]
  | call =>
    show flatDs (_ :: (ds.take 1 ++ [.tuple (ds.drop 1)])) = true
    refine flatDs_of _ fun d hd => ?_
    rcases List.mem_cons.mp hd with rfl | hd
    · rfl
    rcases List.mem_append.mp hd with hd | hd
    · exact fd d (List.mem_of_mem_take hd)
    · cases List.mem_singleton.mp hd
      show flatDs (ds.drop 1) = true
      exact flatDs_of _ fun d hd => fd d (List.mem_of_mem_drop hd)
  | op o => show flatDs [_, _, .tuple ds] = true; simp [flatDs, flatD, f]
  | plain w => show flatDs (_ :: ds) = true; simpa [flatDs, flatD] using f
theorem flat_enc (t : Tr) : flatD t.enc = true := by
  refine tr_ind (P := fun t => flatD t.enc = true) (fun hd ps ih => ?_) t
  show flatD (encH hd (Tr.encL ps)) = true
  refine flat_encH (flatDs_of _ fun d hd => ?_)
  rw [encL_map] at hd
  obtain ⟨t, m, rfl⟩ := List.mem_map.mp hd
  exact ih t m
theorem flat_encL (ps : List Tr) : flatDs (Tr.encL ps) = true := flatDs_of _ fun d hd => by
  rw [encL_map] at hd
  obtain ⟨t, m, rfl⟩ := List.mem_map.mp hd
  exact flat_enc t
/-! ### that trees can be compared -/
theorem layAll_of : ∀ {ds : List PyData}, (∀ d ∈ ds, PyData.canLay0 d = true) → PyData.canLayAll0 ds = true
  | [], _ => rfl
  | d :: ds, h => by
    show (PyData.canLay0 d && PyData.canLayAll0 ds) = true
    rw [h d List.mem_cons_self, layAll_of fun x hx => h x (List.mem_cons_of_mem _ hx)]
    rfl
theorem depAll_le {n : Nat} : ∀ {ds : List PyData}, (∀ d ∈ ds, d.depth ≤ n) → PyData.depthAll ds ≤ n
  | [], _ => by simp [PyData.depthAll]
  | d :: ds, h => by
    have h1 := h d List.mem_cons_self
    have h2 := depAll_le (ds := ds) fun x hx => h x (List.mem_cons_of_mem _ hx)
    simp only [PyData.depthAll]
    omega
theorem lay_tup {ds : List PyData} (h : ∀ d ∈ ds, PyData.canLay0 d = true) : PyData.canLay0 (.tuple ds) = true := layAll_of h
theorem dep_tup {ds : List PyData} {n : Nat} (h : ∀ d ∈ ds, d.depth ≤ n) : PyData.depth (.tuple ds) ≤ n + 1 := by
  have := depAll_le h
  simp only [PyData.depth]
  omega
theorem dep0_str (x : Str) (n : Nat) : PyData.depth (.str x) ≤ n := by simp [PyData.depth]
theorem dep0_int (x : Int) (n : Nat) : PyData.depth (.int x) ≤ n := by simp [PyData.depth]
/-- a text that may stand in data, and how deep data is -/
structure Lay (n : Nat) (d : PyData) : Prop where
  lay : PyData.canLay0 d = true
  dep : d.depth ≤ n
theorem Lay.mono {n m : Nat} {d : PyData} (h : Lay n d) (k : n ≤ m) : Lay m d := ⟨h.lay, Nat.le_trans h.dep k⟩
theorem Lay.str {x : Str} (h : sok x) (n : Nat) : Lay n (.str x) := ⟨h, dep0_str x n⟩
theorem Lay.int (i : Int) (n : Nat) : Lay n (.int i) := ⟨rfl, dep0_int i n⟩
theorem Lay.tup {n : Nat} {ds : List PyData} (h : ∀ d ∈ ds, Lay n d) : Lay (n + 1) (.tuple ds) := ⟨lay_tup fun d m => (h d m).lay, dep_tup fun d m => (h d m).dep⟩
theorem Lay.lst {n : Nat} {ds : List PyData} (h : ∀ d ∈ ds, Lay n d) : Lay (n + 1) (.list ds) := by
  have h1 : PyData.canLay0 (.list ds) = true := layAll_of fun d m => (h d m).lay
  have h2 := depAll_le fun d m => (h d m).dep
  refine ⟨h1, ?_⟩
  simp only [PyData.depth]
  omega
theorem Lay.sh {n : Nat} {d : PyData} (h : Lay n d) (k : n ≤ 64) : SeqAt.shaped d = true := by
  unfold SeqAt.shaped
  rw [h.lay, decide_eq_true (Nat.le_trans h.dep k)]
  rfl
theorem words_sok : ∀ w ∈ litW ++ oneW ++ bindW ++ plainW, sok w := by
  intro w hw
  unfold litW oneW bindW plainW at hw
  simp only [List.cons_append, List.nil_append, List.mem_cons, List.not_mem_nil, or_false] at hw
  rcases hw with rfl | rfl | rfl | rfl | rfl | rfl | rfl | rfl | rfl | rfl | rfl | rfl | rfl | rfl <;> decide +kernel
theorem mem4 {α : Type} {P : α → Prop} {a b c d : α} (ha : P a) (hb : P b) (hc : P c) (hd : P d) : ∀ x ∈ [a, b, c, d], P x := by
  intro x hx
  simp only [List.mem_cons, List.not_mem_nil, or_false] at hx
  rcases hx with rfl | rfl | rfl | rfl <;> assumption
theorem lay_strs {xs : List Str} (h : ∀ x ∈ xs, sok x) (n : Nat) : Lay (n + 1) (encs xs) := Lay.tup fun d hd => by
  obtain ⟨x, m, rfl⟩ := List.mem_map.mp hd
  exact .str (h x m) n
theorem lay_encH {h : Hd} {ds : List PyData} {n : Nat} (o : hok h ds.length) (f : ∀ d ∈ ds, Lay n d) : Lay (n + 3) (encH h ds) := by
  have up : ∀ d ∈ ds, Lay (n + 2) d := fun d m => (f d m).mono (by omega)
  have hw : ∀ w, (w ∈ litW ∨ w ∈ oneW ∨ w ∈ bindW ∨ w ∈ plainW) → Lay (n + 2) (.str w) := fun w m => .str (words_sok w (by
    simp only [List.mem_append]
    rcases m with m | m | m | m
    · exact .inl (.inl (.inl m))
    · exact .inl (.inl (.inr m))
    · exact .inl (.inr m)
    · exact .inr m)) _
  have c : ∀ {d : PyData} {ds : List PyData}, Lay (n + 2) d → (∀ e ∈ ds, Lay (n + 2) e) → ∀ e ∈ d :: ds, Lay (n + 2) e := fun a b e m => by
    rcases List.mem_cons.mp m with rfl | m
    · exact a
    · exact b e m
  have nil : ∀ e ∈ ([] : List PyData), Lay (n + 2) e := fun e m => by cases m
  have S : ∀ w : Str, sok w → Lay (n + 2) (.str w) := fun w h => .str h _
  cases h with
  | num i => exact .tup (c (S "number" (by decide +kernel)) (c (.int i _) nil))
  | name x => exact .tup (c (S "name" (by decide +kernel)) (c (S x o.2) nil))
  | lit w => exact .tup (c (hw w (.inl o.2)) nil)
  | one w x => exact .tup (c (hw w (.inr (.inl o.2.1))) (c (S x o.2.2) up))
  | fn xs => exact .tup (c (S "fn" (by decide +kernel)) (c (lay_strs o.2.2 (n + 1)) up))
  | bind w xs =>
    refine .tup (c (hw w (.inr (.inr (.inl o.2.1)))) (c (Lay.tup fun d hd => ?_) fun d hd => up d (List.mem_of_mem_drop hd)))
    obtain ⟨p, hp, rfl⟩ := List.mem_map.mp hd
    have hz := List.of_mem_zip (show (p.1, p.2) ∈ xs.zip ds from hp)
    refine Lay.tup fun d hd => ?_
    simp only [List.mem_cons, List.not_mem_nil, or_false] at hd
    rcases hd with rfl | rfl
    · exact .str (o.2.2 _ hz.1) _
    · exact f _ hz.2
  | doo => exact .tup (c (S "do" (by decide +kernel)) (c (Lay.tup (fun d m => (f d m).mono (by omega))) nil))
  | call =>
    refine .tup (c (S "call" (by decide +kernel)) fun d hd => ?_)
    rcases List.mem_append.mp hd with hd | hd
    · exact up d (List.mem_of_mem_take hd)
    · cases List.mem_singleton.mp hd
      exact Lay.tup fun d m => (f d (List.mem_of_mem_drop m)).mono (by omega)
  | op o' => exact .tup (c (S "op" (by decide +kernel)) (c (S o' o) (c (Lay.tup (fun d m => (f d m).mono (by omega))) nil)))
  | plain w => exact .tup (c (hw w (.inr (.inr (.inr o)))) up)
theorem lay_enc : ∀ (n : Nat) (t : Tr), t.ok → t.dep ≤ n → Lay (3 * n) t.enc := by
  intro n
  induction n with
  | zero =>
    intro t _ h
    cases t with
    | mk hd ps => exact absurd h (by show ¬ (Tr.deps ps + 1 ≤ 0); omega)
  | succ n ih =>
    intro t o h
    cases t with
    | mk hd ps =>
      have o' : hok hd ps.length ∧ ps.length ≤ 11 ∧ Tr.oks ps := o
      have : Lay (3 * n + 3) (encH hd (Tr.encL ps)) := lay_encH (by rw [encL_len]; exact o'.1) fun d hd => by
        rw [encL_map] at hd
        obtain ⟨t, m, rfl⟩ := List.mem_map.mp hd
        exact ih t (oks_iff.mp o'.2.2 t m) (dep_mk.mp h t m)
      exact this
end Cm

/-! x in (written words); the items of a tree's tuple -/
namespace Cm
open PySem L2 PySem.Spec PyProof.Rows
/-- written texts -/
inductive StrEs : List Expr → List Str → Prop where
  | nil : StrEs [] []
  | cons {x : Str} {k : Nat} {p : Pos} {es : List Expr} {xs : List Str} (h : StrEs es xs) : StrEs (.Constant (.str x) k p :: es) (x :: xs)
def tVals (vs : List V) : TA := fun _ H Q => Q vs H
section
variable {X : Cx} {e : Expr} {te : TE} {es : List Expr} {ws : List Str} {pos p2 : Pos} {n : Nat}
theorem pa_strs (h : StrEs es ws) : PA X es (tVals (ws.map V.str)) := by
  induction h with
  | nil => exact ⟨fun pos pins s σ H Q I h => pa_nil.run pos pins s σ H Q I h⟩
  | @cons x k p es xs h ih =>
    refine ⟨fun pos pins s σ H Q I q => (pa_cons (te := tC (.str x)) pe_str ih (by rfl)).run pos pins s σ H Q I ?_⟩
    exact q
/-- x in ('a', 'b', ..) -/
def tInW (te : TE) (ws : List Str) : TT := fun σ H Q => te σ H fun x H1 => flatV x = true ∧ ∀ H2, Same H1 H2 → Q (inV x (ws.map V.str)) H2
theorem flat_strV (ws : List Str) : (ws.map V.str).all flatV = true := by
  rw [List.all_eq_true]
  intro x hx
  obtain ⟨w, _, rfl⟩ := List.mem_map.mp hx
  rfl
theorem pt_inW (ha : PE X e te) (he : StrEs es ws) (hl : ws.length ≤ sizeLine) (hm : behindInMarks .In (.Tuple es n p2) = false) : PT X (.Compare e [.In] [.Tuple es n p2] pos) (tInW te ws) := by
  refine ⟨fun pins s σ H Q I h => ?_⟩
  refine wpAny_isTrue_Compare1 (thn (ha.run pins s σ H _ I h) fun v s1 ⟨x, H1, I1, r1, fx, q1⟩ => thn ((pe_tup (pa_strs he)).run pins s1 σ H1 (fun y H2 => y ≠ .non ∧ ∃ p, y = .ref p ∧ H2 p = some (.tup (ws.map V.str)) ∧ Same H1 H2) I1 ?_) fun u s2 ⟨y, H2, I2, r2, _, p, ey, hp, s12⟩ =>
    thn (op_in_seq pins s2 σ H2 x y v u (fun z H3 => ∃ k, z = .bl k ∧ Q k H3) I2 r1 r2 ⟨p, _, ey, .inr (.inl (.inl hp)), fx, flat_strV ws, _, rfl, q1 H2 s12⟩) fun c s3 ⟨z, H3, I3, r3, k, e, q3⟩ => ?_) hm
  · refine ⟨by rw [List.length_map]; exact hl, fun p hp => ⟨(fun z => nomatch z), p, rfl, upd_same, same_new hp⟩⟩
  · subst e
    cases r3
    exact wpAny_truthy_bool ⟨H3, I3, q3⟩
end
/-- x in ('a', ..) as a value -/
def tInWV (te : TE) (ws : List Str) : TE := fun σ H Q => te σ H fun x H1 => flatV x = true ∧ ∀ H2, Same H1 H2 → Q (.bl (inV x (ws.map V.str))) H2
section
variable {X : Cx} {e : Expr} {te : TE} {es : List Expr} {ws : List Str} {pos p2 : Pos} {n : Nat}
theorem pe_inW (ha : PE X e te) (he : StrEs es ws) (hl : ws.length ≤ sizeLine) (hm : behindInMarks .In (.Tuple es n p2) = false) : PE X (.Compare e [.In] [.Tuple es n p2] pos) (tInWV te ws) := by
  refine ⟨fun pins s σ H Q I h => ?_⟩
  refine wpAny_Compare1 (thn (ha.run pins s σ H _ I h) fun v s1 ⟨x, H1, I1, r1, fx, q1⟩ => thn ((pe_tup (pa_strs he)).run pins s1 σ H1 (fun y H2 => ∃ p, y = .ref p ∧ H2 p = some (.tup (ws.map V.str)) ∧ Same H1 H2) I1 ?_) fun u s2 ⟨y, H2, I2, r2, p, ey, hp, s12⟩ =>
    op_in_seq pins s2 σ H2 x y v u Q I2 r1 r2 ⟨p, _, ey, .inr (.inl (.inl hp)), fx, flat_strV ws, q1 H2 s12⟩) hm
  exact ⟨by rw [List.length_map]; exact hl, fun p hp => ⟨p, rfl, upd_same, same_new hp⟩⟩
end
/-! ### the items of a tree's tuple -/
def wd : Hd → Str
  | .num _ => "number"
  | .name _ => "name"
  | .lit w => w
  | .one w _ => w
  | .fn _ => "fn"
  | .bind w _ => w
  | .doo => "do"
  | .call => "call"
  | .op _ => "op"
  | .plain w => w
def Items (K : PySem.W.Frag) (H : Hp) (ds : List PyData) : Hd → List V → Prop
  | .num i, its => its = [.str "number", .int i]
  | .name x, its => its = [.str "name", .str x]
  | .lit w, its => its = [.str w]
  | .one w x, its => ∃ vs, its = .str w :: .str x :: vs ∧ DpAll K H vs ds
  | .fn xs, its => ∃ q vs, its = .str "fn" :: .ref q :: vs ∧ SqT K H q (xs.map V.str) ∧ DpAll K H vs ds
  | .bind w xs, its => ∃ q rows vs, its = .str w :: .ref q :: vs ∧ SqT K H q rows ∧ DpAll K H rows ((xs.zip ds).map rowD) ∧ DpAll K H vs (ds.drop xs.length)
  | .doo, its => ∃ q vs, its = [.str "do", .ref q] ∧ SqT K H q vs ∧ DpAll K H vs ds
  | .call, its => ∃ q us vs, its = .str "call" :: (us ++ [.ref q]) ∧ DpAll K H us (ds.take 1) ∧ SqT K H q vs ∧ DpAll K H vs (ds.drop 1)
  | .op o, its => ∃ q vs, its = [.str "op", .str o, .ref q] ∧ SqT K H q vs ∧ DpAll K H vs ds
  | .plain w, its => ∃ vs, its = .str w :: vs ∧ DpAll K H vs ds
theorem dp_str {K : PySem.W.Frag} {H : Hp} {v : V} {x : Str} (h : Dp K H v (.str x)) : v = .str x := by cases h; rfl
theorem dp_int {K : PySem.W.Frag} {H : Hp} {v : V} {x : Int} (h : Dp K H v (.int x)) : v = .int x := by cases h; rfl
theorem dp_tup {K : PySem.W.Frag} {H : Hp} {v : V} {ds : List PyData} (h : Dp K H v (.tuple ds)) : ∃ a its, v = .ref a ∧ SqT K H a its ∧ DpAll K H its ds := by
  cases h with
  | @tup a its ds hs ha => exact ⟨a, its, rfl, hs, ha⟩
theorem dpAll_strs_inv {K : PySem.W.Frag} {H : Hp} : ∀ {xs : List Str} {vs : List V}, DpAll K H vs (xs.map PyData.str) → vs = xs.map V.str
  | [], _, h => by cases h; rfl
  | x :: xs, _, h => by
    cases h with
    | cons h1 h2 => rw [dp_str h1, dpAll_strs_inv h2]; rfl
theorem dpAll_strs {K : PySem.W.Frag} {H : Hp} : ∀ xs : List Str, DpAll K H (xs.map V.str) (xs.map PyData.str)
  | [] => .nil
  | x :: xs => .cons (.str x) (dpAll_strs xs)
theorem dpAll_split {K : PySem.W.Frag} {H : Hp} : ∀ {ds es : List PyData} {vs : List V}, DpAll K H vs (ds ++ es) → ∃ us ws, vs = us ++ ws ∧ DpAll K H us ds ∧ DpAll K H ws es
  | [], es, vs, h => ⟨[], vs, rfl, .nil, h⟩
  | d :: ds, es, vs, h => by
    cases h with
    | cons h1 h2 =>
      obtain ⟨us, ws, rfl, a, b⟩ := dpAll_split h2
      exact ⟨_ :: us, ws, rfl, .cons h1 a, b⟩
theorem view {K : PySem.W.Frag} {H : Hp} {v : V} {h : Hd} {ds : List PyData} (x : Dp K H v (encH h ds)) : ∃ a its, v = .ref a ∧ SqT K H a its ∧ Items K H ds h its := by
  cases h with
  | num i =>
    obtain ⟨a, its, rfl, hs, ha⟩ := dp_tup x
    cases ha with
    | cons h1 h2 => cases h2 with
      | cons h3 h4 =>
        cases h4
        exact ⟨a, _, rfl, hs, by rw [dp_str h1, dp_int h3]; rfl⟩
  | name i =>
    obtain ⟨a, its, rfl, hs, ha⟩ := dp_tup x
    cases ha with
    | cons h1 h2 => cases h2 with
      | cons h3 h4 =>
        cases h4
        exact ⟨a, _, rfl, hs, by rw [dp_str h1, dp_str h3]; rfl⟩
  | lit i =>
    obtain ⟨a, its, rfl, hs, ha⟩ := dp_tup x
    cases ha with
    | cons h1 h2 =>
      cases h2
      exact ⟨a, _, rfl, hs, by rw [dp_str h1]; rfl⟩
  | one w i =>
    obtain ⟨a, its, rfl, hs, ha⟩ := dp_tup x
    cases ha with
    | cons h1 h2 => cases h2 with
      | cons h3 h4 => exact ⟨a, _, rfl, hs, _, by rw [dp_str h1, dp_str h3], h4⟩
  | fn xs =>
    obtain ⟨a, its, rfl, hs, ha⟩ := dp_tup x
    cases ha with
    | cons h1 h2 => cases h2 with
      | cons h3 h4 =>
        obtain ⟨q, vs, rfl, hq, hv⟩ := dp_tup h3
        rw [dpAll_strs_inv hv] at hq
        exact ⟨a, _, rfl, hs, q, _, by rw [dp_str h1], hq, h4⟩
  | bind w xs =>
    obtain ⟨a, its, rfl, hs, ha⟩ := dp_tup x
    cases ha with
    | cons h1 h2 => cases h2 with
      | cons h3 h4 =>
        obtain ⟨q, vs, rfl, hq, hv⟩ := dp_tup h3
        exact ⟨a, _, rfl, hs, q, vs, _, by rw [dp_str h1], hq, hv, h4⟩
  | doo =>
    obtain ⟨a, its, rfl, hs, ha⟩ := dp_tup x
    cases ha with
    | cons h1 h2 => cases h2 with
      | cons h3 h4 =>
        cases h4
        obtain ⟨q, vs, rfl, hq, hv⟩ := dp_tup h3
        exact ⟨a, _, rfl, hs, q, vs, by rw [dp_str h1], hq, hv⟩
  | call =>
    obtain ⟨a, its, rfl, hs, ha⟩ := dp_tup x
    cases ha with
    | cons h1 h2 =>
      obtain ⟨us, ws, rfl, h3, h4⟩ := dpAll_split h2
      cases h4 with
      | cons h5 h6 =>
        cases h6
        obtain ⟨q, vs, rfl, hq, hv⟩ := dp_tup h5
        exact ⟨a, _, rfl, hs, q, us, vs, by rw [dp_str h1], h3, hq, hv⟩
  | op o =>
    obtain ⟨a, its, rfl, hs, ha⟩ := dp_tup x
    cases ha with
    | cons h1 h2 => cases h2 with
      | cons h3 h4 => cases h4 with
        | cons h5 h6 =>
          cases h6
          obtain ⟨q, vs, rfl, hq, hv⟩ := dp_tup h5
          exact ⟨a, _, rfl, hs, q, vs, by rw [dp_str h1, dp_str h3], hq, hv⟩
  | plain w =>
    obtain ⟨a, its, rfl, hs, ha⟩ := dp_tup x
    cases ha with
    | cons h1 h2 => exact ⟨a, _, rfl, hs, _, by rw [dp_str h1], h2⟩
theorem unview {K : PySem.W.Frag} {H : Hp} {a : Addr} {its : List V} {h : Hd} {ds : List PyData} (hs : SqT K H a its) (x : Items K H ds h its) : Dp K H (.ref a) (encH h ds) := by
  cases h with
  | num i => obtain rfl := (show its = _ from x); exact .tup hs (.cons (.str _) (.cons (.int _) .nil))
  | name i => obtain rfl := (show its = _ from x); exact .tup hs (.cons (.str _) (.cons (.str _) .nil))
  | lit i => obtain rfl := (show its = _ from x); exact .tup hs (.cons (.str _) .nil)
  | one w i => obtain ⟨vs, rfl, hv⟩ := x; exact .tup hs (.cons (.str _) (.cons (.str _) hv))
  | fn xs => obtain ⟨q, vs, rfl, hq, hv⟩ := x; exact .tup hs (.cons (.str _) (.cons (.tup hq (dpAll_strs xs)) hv))
  | bind w xs => obtain ⟨q, rows, vs, rfl, hq, hr, hv⟩ := x; exact .tup hs (.cons (.str _) (.cons (.tup hq hr) hv))
  | doo => obtain ⟨q, vs, rfl, hq, hv⟩ := x; exact .tup hs (.cons (.str _) (.cons (.tup hq hv) .nil))
  | call => obtain ⟨q, us, vs, rfl, hu, hq, hv⟩ := x; exact .tup hs (.cons (.str _) (DpAll.app hu (.cons (.tup hq hv) .nil)))
  | op o => obtain ⟨q, vs, rfl, hq, hv⟩ := x; exact .tup hs (.cons (.str _) (.cons (.str _) (.cons (.tup hq hv) .nil)))
  | plain w => obtain ⟨vs, rfl, hv⟩ := x; exact .tup hs (.cons (.str _) hv)
theorem Items.head {K : PySem.W.Frag} {H : Hp} {h : Hd} {ds : List PyData} {its : List V} (x : Items K H ds h its) : atI its 0 = some (.str (wd h)) := by
  refine atI_nat (j := 0) ?_
  cases h with
  | num i => obtain rfl := (show its = _ from x); rfl
  | name i => obtain rfl := (show its = _ from x); rfl
  | lit i => obtain rfl := (show its = _ from x); rfl
  | one w i => obtain ⟨vs, rfl, _⟩ := x; rfl
  | fn xs => obtain ⟨q, vs, rfl, _⟩ := x; rfl
  | bind w xs => obtain ⟨q, rows, vs, rfl, _⟩ := x; rfl
  | doo => obtain ⟨q, vs, rfl, _⟩ := x; rfl
  | call => obtain ⟨q, us, vs, rfl, _⟩ := x; rfl
  | op o => obtain ⟨q, vs, rfl, _⟩ := x; rfl
  | plain w => obtain ⟨vs, rfl, _⟩ := x; rfl
theorem Items.same {K : PySem.W.Frag} {H H' : Hp} {h : Hd} {ds : List PyData} {its : List V} (x : Items K H ds h its) (s : Same H H') : Items K H' ds h its := by
  cases h with
  | num i => exact x
  | name i => exact x
  | lit i => exact x
  | one w i => obtain ⟨vs, e, hv⟩ := x; exact ⟨vs, e, dps_same s _ _ hv⟩
  | fn xs => obtain ⟨q, vs, e, hq, hv⟩ := x; exact ⟨q, vs, e, sqt_same s hq, dps_same s _ _ hv⟩
  | bind w xs => obtain ⟨q, rows, vs, e, hq, hr, hv⟩ := x; exact ⟨q, rows, vs, e, sqt_same s hq, dps_same s _ _ hr, dps_same s _ _ hv⟩
  | doo => obtain ⟨q, vs, e, hq, hv⟩ := x; exact ⟨q, vs, e, sqt_same s hq, dps_same s _ _ hv⟩
  | call => obtain ⟨q, us, vs, e, hu, hq, hv⟩ := x; exact ⟨q, us, vs, e, dps_same s _ _ hu, sqt_same s hq, dps_same s _ _ hv⟩
  | op o => obtain ⟨q, vs, e, hq, hv⟩ := x; exact ⟨q, vs, e, sqt_same s hq, dps_same s _ _ hv⟩
  | plain w => obtain ⟨vs, e, hv⟩ := x; exact ⟨vs, e, dps_same s _ _ hv⟩
/-! ### what the word of a head is -/
def kd : Hd → Nat
  | .num _ => 0
  | .name _ => 1
  | .lit _ => 2
  | .one _ _ => 3
  | .fn _ => 4
  | .bind _ _ => 5
  | .doo => 6
  | .call => 7
  | .op _ => 8
  | .plain _ => 9
def wordsOf : Nat → List Str
  | 0 => ["number"]
  | 1 => ["name"]
  | 2 => litW
  | 3 => oneW
  | 4 => ["fn"]
  | 5 => bindW
  | 6 => ["do"]
  | 7 => ["call"]
  | 8 => ["op"]
  | _ => plainW
theorem wd_mem {h : Hd} {n : Nat} (o : hok h n) : kd h < 10 ∧ wd h ∈ wordsOf (kd h) := by
  cases h with
  | num i => exact ⟨Nat.le_of_ble_eq_true rfl, List.mem_singleton.mpr rfl⟩
  | name i => exact ⟨Nat.le_of_ble_eq_true rfl, List.mem_singleton.mpr rfl⟩
  | lit w => exact ⟨Nat.le_of_ble_eq_true rfl, o.2⟩
  | one w x => exact ⟨Nat.le_of_ble_eq_true rfl, o.2.1⟩
  | fn xs => exact ⟨Nat.le_of_ble_eq_true rfl, List.mem_singleton.mpr rfl⟩
  | bind w xs => exact ⟨Nat.le_of_ble_eq_true rfl, o.2.1⟩
  | doo => exact ⟨Nat.le_of_ble_eq_true rfl, List.mem_singleton.mpr rfl⟩
  | call => exact ⟨Nat.le_of_ble_eq_true rfl, List.mem_singleton.mpr rfl⟩
  | op i => exact ⟨Nat.le_of_ble_eq_true rfl, List.mem_singleton.mpr rfl⟩
  | plain w => exact ⟨Nat.le_of_ble_eq_true rfl, o⟩
/-- what is asked of the word alone -/
theorem by_kind (p : Str → Bool) (k : Nat → Bool) (hc : ∀ c < 10, ∀ w ∈ wordsOf c, p w = k c) {h : Hd} {n : Nat} (o : hok h n) : p (wd h) = k (kd h) :=
  hc _ (wd_mem o).1 _ (wd_mem o).2
def kF (h : Hd) : Bool := kd h == 3 || kd h == 4
def kB (h : Hd) : Bool := kd h == 5
def kP (h : Hd) : Bool := kd h == 9
def kL (h : Hd) : Bool := kd h < 3
def isDo (h : Hd) : Bool := kd h == 6
def isCall (h : Hd) : Bool := kd h == 7
def isOp (h : Hd) : Bool := kd h == 8
theorem in_words {ws : List Str} {x : Str} : inV (.str x) (ws.map V.str) = decide (x ∈ ws) := by
  induction ws with
  | nil => rfl
  | cons w ws ih =>
    show (eqV (V.str w) (V.str x) || inV (.str x) (ws.map V.str)) = _
    rw [ih]
    have e : eqV (V.str w) (V.str x) = decide (x = w) := by
      show (w == x) = _
      by_cases q : x = w
      · rw [q]; simp
      · have : ¬ w = x := fun z => q z.symm
        simp [q, this]
    rw [e]
    by_cases q : x = w <;> simp [q]
section
variable {h : Hd} {n : Nat}
theorem in_F (o : hok h n) : inV (.str (wd h)) ((["fn", "set", "keep", "once", "take"] : List Str).map V.str) = kF h :=
  by_kind (fun w => inV (.str w) ((["fn", "set", "keep", "once", "take"] : List Str).map V.str)) (fun k => k == 3 || k == 4) (by decide +kernel) o
theorem in_B (o : hok h n) : inV (.str (wd h)) ((["let", "rec"] : List Str).map V.str) = kB h :=
  by_kind (fun w => inV (.str w) ((["let", "rec"] : List Str).map V.str)) (fun k => k == 5) (by decide +kernel) o
theorem in_P (o : hok h n) : inV (.str (wd h)) ((["if", "mark", "wind", "show"] : List Str).map V.str) = kP h :=
  by_kind (fun w => inV (.str w) ((["if", "mark", "wind", "show"] : List Str).map V.str)) (fun k => k == 9) (by decide +kernel) o
theorem in_L (o : hok h n) : inV (.str (wd h)) ((["number", "true", "false", "none", "name", "ask"] : List Str).map V.str) = kL h :=
  by_kind (fun w => inV (.str w) ((["number", "true", "false", "none", "name", "ask"] : List Str).map V.str)) (fun k => k < 3) (by decide +kernel) o
theorem eq_do (o : hok h n) : decide (V.str (wd h) = V.str "do") = isDo h := by
  rw [decS]
  exact by_kind (fun w => decide (w = "do")) (fun k => k == 6) (by decide +kernel) o
theorem eq_call (o : hok h n) : decide (V.str (wd h) = V.str "call") = isCall h := by
  rw [decS]
  exact by_kind (fun w => decide (w = "call")) (fun k => k == 7) (by decide +kernel) o
theorem eq_op (o : hok h n) : decide (V.str (wd h) = V.str "op") = isOp h := by
  rw [decS]
  exact by_kind (fun w => decide (w = "op")) (fun k => k == 8) (by decide +kernel) o
end
end Cm

/-! slices and sums of tuples whichever object they are; rules with K said -/
namespace Cm
open PySem L2 PySem.Spec PyProof.Rows
theorem cut_from {xs : List V} {k : Nat} (h : k ≤ xs.length) : cutV xs (some (k : Int)) Option.none = xs.drop k := by
  unfold cutV
  rw [HT.sIx_nat, HT.sIx_none, Nat.min_eq_left h]
  exact List.take_of_length_le (by rw [List.length_drop]; omega)
theorem cut_to {xs : List V} {k : Nat} (h : k ≤ xs.length) : cutV xs Option.none (some (k : Int)) = xs.take k := by
  unfold cutV
  rw [HT.sIx_nat, HT.sIx_none, Nat.min_eq_left h, List.drop_zero, Nat.sub_zero]
/-- t[k:] of a tuple: whichever object it is -/
theorem sl_from {K : PySem.W.Frag} {a : Addr} {xs : List V} {k : Nat} {σ : L2.St} {H : Hp} {Q : VK} (hs : SqT K H a xs) (hk : k ≤ xs.length) (h : ∀ t H', Same H H' → SqT K H' t (xs.drop k) → Q (.ref t) H') :
    (tNoPart σ H fun u H1 => rSlA K (.ref a) (some (k : Int)) u H1 Q) := by
  refine ⟨a, xs, rfl, hs, fun q => ?_, fun _ p hp => ?_⟩
  · rw [HT.sIx_nat, Nat.min_eq_left hk] at q
    have : k = 0 := q.1
    subst this
    exact h a H (Same.refl H) hs
  · rw [cut_from hk]
    exact h p _ (same_new hp) (.inl (.inl upd_same))
theorem sl_to {K : PySem.W.Frag} {a : Addr} {xs : List V} {k : Nat} {H : Hp} {Q : VK} (hs : SqT K H a xs) (hk : k ≤ xs.length) (h : ∀ t H', Same H H' → SqT K H' t (xs.take k) → Q (.ref t) H') :
    rSlA K (.ref a) Option.none (some (k : Int)) H Q := by
  refine ⟨a, xs, rfl, hs, fun q => ?_, fun _ p hp => ?_⟩
  · rw [HT.sIx_nat, Nat.min_eq_left hk] at q
    have e : xs.take k = xs := List.take_of_length_le (by rw [q.2]; exact Nat.le_refl _)
    refine h a H (Same.refl H) ?_
    rw [e]
    exact hs
  · rw [cut_to hk]
    exact h p _ (same_new hp) (.inl (.inl upd_same))
theorem cat_any {K : PySem.W.Frag} {a b : Addr} {xs ys : List V} {H : Hp} {Q : VK} (ha : SqT K H a xs) (hb : SqT K H b ys) (hl : xs.length + ys.length ≤ sizeLine)
    (h : ∀ t H', Same H H' → SqT K H' t (xs ++ ys) → Q (.ref t) H') : rCatA K (.ref a) (.ref b) H Q := by
  refine ⟨a, b, xs, ys, rfl, rfl, ha, hb, hl, fun e => ?_, fun _ e => ?_, fun _ _ p hp => h p _ (same_new hp) (.inl (.inl upd_same))⟩
  · exact h b H (Same.refl H) (by rw [e]; exact hb)
  · exact h a H (Same.refl H) (by rw [e, List.append_nil]; exact ha)
theorem range_map {α β : Type} (f : α → β) (l : List α) : (List.range l.length).filterMap (fun i => (l[i]?).map f) = l.map f := by
  induction l with
  | nil => rfl
  | cons a l ih =>
    rw [List.length_cons, List.range_succ_eq_map, List.filterMap_cons]
    simp only [List.getElem?_cons_zero, Option.map_some, List.filterMap_map]
    rw [List.map_cons, ← ih]
    congr 1
theorem ke_tupleOf {X : Cx} {K : PySem.W.Frag} {a : Expr} {ta : TE} {p pos : Pos} (hg : Gl X "tuple") (hm : X.mg "tuple" = none) (ha : PE X a ta) (h : X.K = K := by rfl) (na : starEach [a] X.env = (false, eval a X.env) :: starEach [] X.env := by rfl) :
    PE X (.Call (.Name "tuple" p) [a] [] pos) (tThen ta (kTup K)) := by
  subst h
  exact pe_tupleOf hg hm ha na
theorem ne_same' {d : PyData} (h : SeqAt.shaped d = true) : (!PyData.eqv d d) = false := by
  rw [SeqAt.eqv_refl d (SeqAt.canLay_of_shaped h)]
  rfl
theorem kc_isi {X : Cx} {K : PySem.W.Frag} (h : X.K = K := by rfl) : CallR X (.builtin "isinstance") (rIsi K) := by subst h; exact call_isi
theorem one_of {α : Type} {xs : List α} (h : xs.length = 1) : ∃ x, xs = [x] := by
  cases xs with
  | nil => simp at h
  | cons a r =>
    cases r with
    | nil => exact ⟨a, rfl⟩
    | cons b r => simp at h
theorem dpAll_one {K : PySem.W.Frag} {H : Hp} {vs : List V} {d : PyData} (h : DpAll K H vs [d]) : ∃ v, vs = [v] ∧ Dp K H v d := by
  cases h with
  | cons h1 h2 =>
    cases h2
    exact ⟨_, rfl, h1⟩
theorem dps_cat {K : PySem.W.Frag} {H : Hp} {ds es : List PyData} {vs us : List V} (h1 : DpAll K H vs ds) (h2 : DpAll K H us es) : DpAll K H (vs ++ us) (ds ++ es) := DpAll.app h1 h2
theorem free_of {H H' : Hp} {p : Addr} (s : Same H H') (h : H' p = Option.none) : H p = Option.none := by
  cases e : H p with
  | none => rfl
  | some o =>
    have := s _ _ e
    rw [h] at this
    cases this
end Cm

/-! paths of trees -/
namespace Cm
open PySem L2 PySem.Spec PyProof.Rows
def Tr.hd : Tr → Hd
  | .mk h _ => h
def Tr.ps : Tr → List Tr
  | .mk _ ps => ps
def Tr.at : List Int → Tr → Option Tr
  | [], t => some t
  | i :: r, .mk _ ps => if 0 ≤ i then (ps[i.toNat]?).bind (Tr.at r) else none
def Tr.put : List Int → Tr → Tr → Tr
  | [], _, o => o
  | i :: r, .mk h ps, o => match ps[i.toNat]? with
    | some p => .mk h (ps.set i.toNat (Tr.put r p o))
    | none => .mk h ps
mutual
def Tr.paths : Tr → List (List Int)
  | .mk _ ps => [] :: Tr.pathsL 0 ps
def Tr.pathsL : Nat → List Tr → List (List Int)
  | _, [] => []
  | i, t :: ts => t.paths.map (fun p => ((i : Nat) : Int) :: p) ++ Tr.pathsL (i + 1) ts
end
mutual
def Tr.size : Tr → Nat
  | .mk _ ps => Tr.sizes ps + 1
def Tr.sizes : List Tr → Nat
  | [] => 0
  | t :: ts => t.size + Tr.sizes ts
end
theorem at_snoc : ∀ (p : List Int) (i : Int) (t : Tr), Tr.at (p ++ [i]) t = (Tr.at p t).bind (Tr.at [i])
  | [], i, t => rfl
  | j :: r, i, .mk h ps => by
    show (if 0 ≤ j then (ps[j.toNat]?).bind (Tr.at (r ++ [i])) else none) = ((if 0 ≤ j then (ps[j.toNat]?).bind (Tr.at r) else none) : Option Tr).bind (Tr.at [i])
    by_cases q : 0 ≤ j
    · rw [if_pos q, if_pos q]
      cases ps[j.toNat]? with
      | none => rfl
      | some p => exact at_snoc r i p
    · rw [if_neg q, if_neg q]
      rfl
theorem at_one {i : Nat} {h : Hd} {ps : List Tr} : Tr.at [((i : Nat) : Int)] (.mk h ps) = ps[i]? := by
  show (if 0 ≤ ((i : Nat) : Int) then (ps[((i : Nat) : Int).toNat]?).bind (Tr.at []) else none) = _
  rw [if_pos (by omega), Int.toNat_natCast]
  cases ps[i]? <;> rfl
theorem at_ok : ∀ (p : List Int) {t s : Tr}, t.ok → Tr.at p t = some s → s.ok
  | [], t, s, o, e => by cases e; exact o
  | i :: r, .mk h ps, s, o, e => by
    have e' : (if 0 ≤ i then (ps[i.toNat]?).bind (Tr.at r) else none) = some s := e
    by_cases q : 0 ≤ i
    · rw [if_pos q] at e'
      cases hp : ps[i.toNat]? with
      | none => rw [hp] at e'; cases e'
      | some p =>
        rw [hp] at e'
        have o' : hok h ps.length ∧ ps.length ≤ 11 ∧ Tr.oks ps := o
        exact at_ok r (oks_iff.mp o'.2.2 p (List.mem_of_getElem? hp)) e'
    · rw [if_neg q] at e'
      cases e'
theorem at_dep : ∀ (p : List Int) {t s : Tr}, Tr.at p t = some s → s.dep + p.length ≤ t.dep
  | [], t, s, e => by cases e; exact Nat.le_refl _
  | i :: r, .mk h ps, s, e => by
    have e' : (if 0 ≤ i then (ps[i.toNat]?).bind (Tr.at r) else none) = some s := e
    by_cases q : 0 ≤ i
    · rw [if_pos q] at e'
      cases hp : ps[i.toNat]? with
      | none => rw [hp] at e'; cases e'
      | some p =>
        rw [hp] at e'
        have h1 := at_dep r (t := p) e'
        have h2 := deps_le.mp (Nat.le_refl (Tr.deps ps)) p (List.mem_of_getElem? hp)
        show s.dep + (r.length + 1) ≤ Tr.deps ps + 1
        omega
    · rw [if_neg q] at e'
      cases e'
theorem pathsL_snoc (t : Tr) : ∀ (ts : List Tr) (i : Nat), Tr.pathsL i (ts ++ [t]) = Tr.pathsL i ts ++ t.paths.map (fun p => (((i + ts.length : Nat)) : Int) :: p)
  | [], i => by
    show t.paths.map _ ++ [] = [] ++ _
    simp
  | a :: ts, i => by
    show a.paths.map _ ++ Tr.pathsL (i + 1) (ts ++ [t]) = (a.paths.map _ ++ Tr.pathsL (i + 1) ts) ++ _
    rw [pathsL_snoc t ts (i + 1), List.append_assoc, List.length_cons, show i + 1 + ts.length = i + (ts.length + 1) by omega]
mutual
theorem paths_len : ∀ t : Tr, t.paths.length = t.size
  | .mk h ps => by
    show (Tr.pathsL 0 ps).length + 1 = Tr.sizes ps + 1
    rw [pathsL_len 0 ps]
theorem pathsL_len : ∀ (i : Nat) (ts : List Tr), (Tr.pathsL i ts).length = Tr.sizes ts
  | _, [] => rfl
  | i, t :: ts => by
    show (t.paths.map _ ++ Tr.pathsL (i + 1) ts).length = t.size + Tr.sizes ts
    rw [List.length_append, List.length_map, paths_len t, pathsL_len (i + 1) ts]
end
theorem pathsL_mem {q : List Int} : ∀ (ts : List Tr) (i : Nat), q ∈ Tr.pathsL i ts → ∃ (j : Nat) (t : Tr) (p : List Int), ts[j]? = some t ∧ p ∈ t.paths ∧ q = ((i + j : Nat) : Int) :: p
  | [], i, m => by cases m
  | a :: ts, i, m => by
    have m' : q ∈ a.paths.map (fun p => ((i : Nat) : Int) :: p) ++ Tr.pathsL (i + 1) ts := m
    rcases List.mem_append.mp m' with m | m
    · obtain ⟨p, hp, rfl⟩ := List.mem_map.mp m
      exact ⟨0, a, p, rfl, hp, rfl⟩
    · obtain ⟨j, t, p, e1, e2, e3⟩ := pathsL_mem ts (i + 1) m
      exact ⟨j + 1, t, p, by simpa using e1, e2, by rw [e3]; congr 2; omega⟩
theorem paths_at : ∀ (n : Nat) (t : Tr), t.dep ≤ n → ∀ p ∈ t.paths, ∃ s, Tr.at p t = some s := by
  intro n
  induction n with
  | zero =>
    intro t h
    cases t with
    | mk hd ps => exact absurd h (by show ¬ (Tr.deps ps + 1 ≤ 0); omega)
  | succ n ih =>
    intro t h p hp
    cases t with
    | mk hd ps =>
      have hp' : p ∈ ([] : List Int) :: Tr.pathsL 0 ps := hp
      rcases List.mem_cons.mp hp' with rfl | hp'
      · exact ⟨_, rfl⟩
      · obtain ⟨j, t, q, e1, e2, rfl⟩ := pathsL_mem ps 0 hp'
        obtain ⟨s, es⟩ := ih t (dep_mk.mp h t (List.mem_of_getElem? e1)) q e2
        refine ⟨s, ?_⟩
        show (if 0 ≤ ((0 + j : Nat) : Int) then (ps[((0 + j : Nat) : Int).toNat]?).bind (Tr.at q) else none) = some s
        rw [if_pos (by omega), Nat.zero_add, Int.toNat_natCast, e1]
        exact es
theorem paths_size : ∀ (n : Nat) (t : Tr), t.dep ≤ n → ∀ p ∈ t.paths, p.length < t.dep := by
  intro n t h p hp
  obtain ⟨s, es⟩ := paths_at n t h p hp
  have := at_dep p es
  have : 1 ≤ s.dep := by cases s with | mk hd ps => show 1 ≤ Tr.deps ps + 1; omega
  omega
def pathI (x : List Int) : PyData := .tuple (x.map PyData.int)
theorem flat_pathI (xs : List (List Int)) : flatDs (xs.map pathI) = true := flatDs_of _ fun d hd => by
  obtain ⟨x, _, rfl⟩ := List.mem_map.mp hd
  exact flatDs_ints x
theorem dp_pathI {K : PySem.W.Frag} {H : Hp} {t : Addr} {x : List Int} (h : SqT K H t (x.map V.int)) : Dp K H (.ref t) (pathI x) := .tup h (dpAll_ints x)
theorem dpAll_ints_inv {K : PySem.W.Frag} {H : Hp} : ∀ {x : List Int} {vs : List V}, DpAll K H vs (x.map PyData.int) → vs = x.map V.int
  | [], _, h => by cases h; rfl
  | i :: x, _, h => by
    cases h with
    | cons h1 h2 => rw [dp_int h1, dpAll_ints_inv h2]; rfl
theorem pathI_inv {K : PySem.W.Frag} {H : Hp} {v : V} {x : List Int} (h : Dp K H v (pathI x)) : ∃ t, v = .ref t ∧ SqT K H t (x.map V.int) := by
  obtain ⟨a, its, rfl, hs, ha⟩ := dp_tup h
  rw [dpAll_ints_inv ha] at hs
  exact ⟨a, rfl, hs⟩
end Cm

/-! keep forms of trees; once in their place -/
namespace Cm
open PySem L2 PySem.Spec PyProof.Rows
def isKeep : Hd → Bool
  | .one w _ => decide (w = "keep")
  | _ => false
theorem eq_keep {h : Hd} {n : Nat} (o : hok h n) : decide (V.str (wd h) = V.str "keep") = isKeep h := by
  have other : kd h ≠ 3 → decide (wd h = "keep") = false := fun q => by
    have key : ∀ c < 10, c ≠ 3 → ∀ w ∈ wordsOf c, decide (w = ("keep" : Str)) = false := by decide +kernel
    exact key _ (wd_mem o).1 q _ (wd_mem o).2
  rw [decS]
  cases h with
  | one w x => rfl
  | num i => exact other (Nat.ne_of_beq_eq_false rfl)
  | name i => exact other (Nat.ne_of_beq_eq_false rfl)
  | lit i => exact other (Nat.ne_of_beq_eq_false rfl)
  | fn i => exact other (Nat.ne_of_beq_eq_false rfl)
  | bind i _ => exact other (Nat.ne_of_beq_eq_false rfl)
  | doo => exact other (Nat.ne_of_beq_eq_false rfl)
  | call => exact other (Nat.ne_of_beq_eq_false rfl)
  | op i => exact other (Nat.ne_of_beq_eq_false rfl)
  | plain i => exact other (Nat.ne_of_beq_eq_false rfl)
def keepAt (t : Tr) (p : List Int) : Bool := match Tr.at p t with
  | some s => isKeep s.hd
  | none => false
def keepPaths (t : Tr) : List (List Int) := t.paths.filter (keepAt t)
def keepL : Nat → List Tr → List (List Int)
  | _, [] => []
  | i, t :: ts => (keepPaths t).map (fun p => ((i : Nat) : Int) :: p) ++ keepL (i + 1) ts
theorem keepAt_cons {h : Hd} {ps : List Tr} {j : Nat} {t : Tr} (e : ps[j]? = some t) (p : List Int) : keepAt (.mk h ps) (((j : Nat) : Int) :: p) = keepAt t p := by
  unfold keepAt
  show (match (if 0 ≤ ((j : Nat) : Int) then (ps[((j : Nat) : Int).toNat]?).bind (Tr.at p) else none : Option Tr) with | some s => isKeep s.hd | none => false) = _
  rw [if_pos (by omega), Int.toNat_natCast, e]
  rfl
theorem filter_pathsL (h : Hd) : ∀ (ts pre : List Tr), (Tr.pathsL pre.length ts).filter (keepAt (.mk h (pre ++ ts))) = keepL pre.length ts
  | [], pre => rfl
  | t :: ts, pre => by
    show (t.paths.map (fun p => ((pre.length : Nat) : Int) :: p) ++ Tr.pathsL (pre.length + 1) ts).filter _ = (keepPaths t).map _ ++ keepL (pre.length + 1) ts
    have ih := filter_pathsL h ts (pre ++ [t])
    rw [List.length_append, List.length_singleton, List.append_assoc] at ih
    rw [List.filter_append]
    have e2 : pre ++ t :: ts = pre ++ ([t] ++ ts) := rfl
    rw [e2, ih]
    congr 1
    rw [List.filter_map]
    congr 1
    unfold keepPaths
    refine List.filter_congr fun p _ => ?_
    show keepAt (.mk h (pre ++ ([t] ++ ts))) (((pre.length : Nat) : Int) :: p) = keepAt t p
    exact keepAt_cons (by rw [List.getElem?_append_right (Nat.le_refl _), Nat.sub_self]; rfl) p
theorem keepPaths_mk (h : Hd) (ps : List Tr) : keepPaths (.mk h ps) = (if isKeep h = true then [[]] else []) ++ keepL 0 ps := by
  unfold keepPaths
  show (([] : List Int) :: Tr.pathsL 0 ps).filter (keepAt (.mk h ps)) = _
  have e := filter_pathsL h ps []
  simp only [List.nil_append, List.length_nil] at e
  rw [List.filter_cons, e]
  show (if isKeep h = true then _ else _) = _
  by_cases q : isKeep h = true
  · rw [if_pos q, if_pos q]; rfl
  · rw [if_neg q, if_neg q]; rfl
theorem keepL_snoc (t : Tr) : ∀ (ts : List Tr) (i : Nat), keepL i (ts ++ [t]) = keepL i ts ++ (keepPaths t).map (fun p => (((i + ts.length : Nat)) : Int) :: p)
  | [], i => by
    show (keepPaths t).map _ ++ [] = [] ++ _
    simp
  | a :: ts, i => by
    show (keepPaths a).map _ ++ keepL (i + 1) (ts ++ [t]) = ((keepPaths a).map _ ++ keepL (i + 1) ts) ++ _
    rw [keepL_snoc t ts (i + 1), List.append_assoc, List.length_cons, show i + 1 + ts.length = i + (ts.length + 1) by omega]
theorem keepL_le : ∀ (ts : List Tr) (i : Nat), (keepL i ts).length ≤ Tr.sizes ts
  | [], i => Nat.le_refl _
  | t :: ts, i => by
    have := keepL_le ts (i + 1)
    have h1 : (keepPaths t).length ≤ t.size := by rw [← paths_len]; exact List.length_filter_le ..
    show ((keepPaths t).map _ ++ keepL (i + 1) ts).length ≤ t.size + Tr.sizes ts
    rw [List.length_append, List.length_map]
    omega
/-! ### once in the place of keep at the paths of S -/
def reword (b : Bool) : Hd → Hd
  | .one w x => if b = true ∧ w = "keep" then .one "once" x else .one w x
  | h => h
mutual
def Tr.rw (S : List (List Int)) (pre : List Int) : Tr → Tr
  | .mk h ps => .mk (reword (decide (pre ∈ S)) h) (Tr.rwL S pre 0 ps)
def Tr.rwL (S : List (List Int)) (pre : List Int) : Nat → List Tr → List Tr
  | _, [] => []
  | i, t :: ts => Tr.rw S (pre ++ [((i : Nat) : Int)]) t :: Tr.rwL S pre (i + 1) ts
end
theorem rwL_len (S : List (List Int)) (pre : List Int) : ∀ (ts : List Tr) (i : Nat), (Tr.rwL S pre i ts).length = ts.length
  | [], _ => rfl
  | t :: ts, i => by
    show (Tr.rwL S pre (i + 1) ts).length + 1 = ts.length + 1
    rw [rwL_len S pre ts (i + 1)]
theorem rwL_at (S : List (List Int)) (pre : List Int) : ∀ (ts : List Tr) (i j : Nat), (Tr.rwL S pre i ts)[j]? = (ts[j]?).map (Tr.rw S (pre ++ [((i + j : Nat) : Int)]))
  | [], _, _ => rfl
  | t :: ts, i, 0 => rfl
  | t :: ts, i, j + 1 => by
    show (Tr.rwL S pre (i + 1) ts)[j]? = (ts[j]?).map _
    rw [rwL_at S pre ts (i + 1) j, show i + 1 + j = i + (j + 1) by omega]
theorem rwL_eq {S R : List (List Int)} {pre : List Int} : ∀ (ts : List Tr) (i : Nat), (∀ j t, ts[j]? = some t → Tr.rw S (pre ++ [((i + j : Nat) : Int)]) t = Tr.rw R (pre ++ [((i + j : Nat) : Int)]) t) → Tr.rwL S pre i ts = Tr.rwL R pre i ts
  | [], _, _ => rfl
  | t :: ts, i, h => by
    show Tr.rw S _ t :: Tr.rwL S pre (i + 1) ts = Tr.rw R _ t :: Tr.rwL R pre (i + 1) ts
    have h0 := h 0 t rfl
    rw [Nat.add_zero] at h0
    have h1 := rwL_eq (S := S) (R := R) (pre := pre) ts (i + 1) fun j t e => by
      have := h (j + 1) t (by simpa using e)
      rw [show i + 1 + j = i + (j + 1) by omega]
      exact this
    rw [h0, h1]
/-- a path that does not begin so changes nothing -/
theorem rw_irrel {S : List (List Int)} {q : List Int} (t : Tr) : ∀ (pre : List Int), (∀ r, q ≠ pre ++ r) → Tr.rw (S ++ [q]) pre t = Tr.rw S pre t := by
  refine tr_ind (P := fun t => ∀ (pre : List Int), (∀ r, q ≠ pre ++ r) → Tr.rw (S ++ [q]) pre t = Tr.rw S pre t) (fun h ps ih pre hq => ?_) t
  show Tr.mk (reword (decide (pre ∈ S ++ [q])) h) (Tr.rwL (S ++ [q]) pre 0 ps) = Tr.mk (reword (decide (pre ∈ S)) h) (Tr.rwL S pre 0 ps)
  have e1 : decide (pre ∈ S ++ [q]) = decide (pre ∈ S) := by
    have n : pre ≠ q := fun e => hq [] (by rw [e, List.append_nil])
    simp [n]
  rw [e1, rwL_eq ps 0 fun j t e => ih t (List.mem_of_getElem? e) _ fun r z => hq ([((0 + j : Nat) : Int)] ++ r) (by rw [z, List.append_assoc])]
theorem put_rw {S : List (List Int)} : ∀ (p pre : List Int) (t : Tr) (x : Str) (b : Tr), Tr.at p t = some (.mk (.one "keep" x) [b]) →
    ∃ w b', Tr.at p (Tr.rw S pre t) = some (.mk (.one w x) [b']) ∧ Tr.put p (Tr.rw S pre t) (.mk (.one "once" x) [b']) = Tr.rw (S ++ [pre ++ p]) pre t
  | [], pre, t, x, b, e => by
    cases e
    have e2 : Tr.rw (S ++ [pre ++ []]) pre (.mk (.one "keep" x) [b]) = .mk (.one "once" x) [Tr.rw S (pre ++ [((0 : Nat) : Int)]) b] := by
      show Tr.mk (reword (decide (pre ∈ S ++ [pre ++ []])) (.one "keep" x)) [Tr.rw (S ++ [pre ++ []]) (pre ++ [((0 : Nat) : Int)]) b] = _
      rw [List.append_nil, rw_irrel b (pre ++ [((0 : Nat) : Int)]) fun r z => by
        have := congrArg List.length z
        simp at this]
      simp [reword]
    have e3 : ∃ w, reword (decide (pre ∈ S)) (.one "keep" x) = .one w x := by
      show ∃ w, (if decide (pre ∈ S) = true ∧ ("keep" : Str) = "keep" then Hd.one "once" x else Hd.one "keep" x) = .one w x
      split
      · exact ⟨_, rfl⟩
      · exact ⟨_, rfl⟩
    obtain ⟨w, e3⟩ := e3
    refine ⟨w, Tr.rw S (pre ++ [((0 : Nat) : Int)]) b, ?_, ?_⟩
    · show some (Tr.mk (reword (decide (pre ∈ S)) (.one "keep" x)) [Tr.rw S (pre ++ [((0 : Nat) : Int)]) b]) = _
      rw [e3]
    · rw [e2]
      rfl
  | i :: r, pre, .mk h ps, x, b, e => by
    have e' : (if 0 ≤ i then (ps[i.toNat]?).bind (Tr.at r) else none) = some (.mk (.one "keep" x) [b]) := e
    have h0 : 0 ≤ i := by
      by_cases q : 0 ≤ i
      · exact q
      · rw [if_neg q] at e'
        cases e'
    obtain ⟨m, rfl⟩ : ∃ m : Nat, i = (m : Int) := ⟨i.toNat, by omega⟩
    rw [if_pos h0, Int.toNat_natCast] at e'
    cases ec : ps[m]? with
    | none => rw [ec] at e'; cases e'
    | some c =>
      rw [ec] at e'
      obtain ⟨w, b', g1, g2⟩ := put_rw r (pre ++ [(m : Int)]) c x b e'
      have er : (Tr.rwL S pre 0 ps)[m]? = some (Tr.rw S (pre ++ [(m : Int)]) c) := by rw [rwL_at, ec, Nat.zero_add]; rfl
      refine ⟨w, b', ?_, ?_⟩
      · show (if 0 ≤ (m : Int) then ((Tr.rwL S pre 0 ps)[(m : Int).toNat]?).bind (Tr.at r) else none) = _
        rw [if_pos h0, Int.toNat_natCast, er]
        exact g1
      · show (match (Tr.rwL S pre 0 ps)[(m : Int).toNat]? with | some p => Tr.mk (reword (decide (pre ∈ S)) h) ((Tr.rwL S pre 0 ps).set (m : Int).toNat (Tr.put r p _)) | none => _) = _
        rw [Int.toNat_natCast, er]
        show Tr.mk (reword (decide (pre ∈ S)) h) ((Tr.rwL S pre 0 ps).set m (Tr.put r (Tr.rw S (pre ++ [(m : Int)]) c) (.mk (.one "once" x) [b']))) = Tr.mk (reword (decide (pre ∈ S ++ [pre ++ (m : Int) :: r])) h) (Tr.rwL (S ++ [pre ++ (m : Int) :: r]) pre 0 ps)
        rw [g2]
        have e1 : decide (pre ∈ S ++ [pre ++ (m : Int) :: r]) = decide (pre ∈ S) := by
          have n : pre ≠ pre ++ (m : Int) :: r := fun e => by
            have := congrArg List.length e
            simp at this
          simp [n]
        rw [e1]
        congr 1
        have hm : m < ps.length := (List.getElem?_eq_some_iff.mp ec).1
        refine List.ext_getElem? fun j => ?_
        rw [rwL_at]
        by_cases q : j = m
        · subst q
          rw [List.getElem?_set_self (by rw [rwL_len]; exact hm), ec, Nat.zero_add, List.append_assoc]
          rfl
        · rw [List.getElem?_set_ne (Ne.symm q), rwL_at]
          cases ej : ps[j]? with
          | none => rfl
          | some d =>
            show some _ = some _
            rw [rw_irrel d (pre ++ [((0 + j : Nat) : Int)]) fun r' z => q ?_]
            rw [List.append_assoc] at z
            have z2 := List.append_cancel_left z
            simp at z2
            omega
end Cm

/-! paths as data: equality, being in a list -/
namespace Cm
open PySem L2 PySem.Spec PyProof.Rows
theorem eqvAll_intsP : ∀ a b : List Int, PyData.eqvAll (a.map PyData.int) (b.map PyData.int) = decide (a = b)
  | [], [] => by simp [PyData.eqvAll]
  | [], b :: bs => by simp [PyData.eqvAll]
  | a :: as, [] => by simp [PyData.eqvAll]
  | a :: as, b :: bs => by
    have ih := eqvAll_intsP as bs
    simp only [List.map_cons, PyData.eqvAll, PyData.eqv, ih]
    by_cases h : a = b
    · by_cases h2 : as = bs <;> simp [h, h2]
    · simp [h]
theorem eqv_path (a b : List Int) : PyData.eqv (pathI a) (pathI b) = decide (a = b) := by
  have := eqvAll_intsP a b
  simp only [pathI, PyData.eqv]
  exact this
theorem any_path (S : List (List Int)) (p : List Int) : ((S.map pathI).any fun z => PyData.eqv z (pathI p)) = decide (p ∈ S) := by
  induction S with
  | nil => rfl
  | cons s S ih =>
    rw [List.map_cons, List.any_cons, ih, eqv_path]
    by_cases h : s = p
    · simp [h]
    · have : ¬ p = s := fun z => h z.symm
      simp [h, this]
theorem lay_path (p : List Int) : Lay 1 (pathI p) := Lay.tup (n := 0) fun d hd => by
  obtain ⟨i, _, rfl⟩ := List.mem_map.mp hd
  exact .int i 0
theorem lay_paths (S : List (List Int)) : Lay 2 (.list (S.map pathI)) := Lay.lst fun d hd => by
  obtain ⟨i, _, rfl⟩ := List.mem_map.mp hd
  exact lay_path i
theorem lay_pathsT (S : List (List Int)) : Lay 2 (.tuple (S.map pathI)) := Lay.tup fun d hd => by
  obtain ⟨i, _, rfl⟩ := List.mem_map.mp hd
  exact lay_path i
theorem ko_notInD {X : Cx} {K : PySem.W.Frag} (hu : X.A.units + 65 < cLine) (h : X.K = K := by rfl) : OpR X (compareOp .NotIn) (rNotInD K) := by subst h; exact op_notInD hu
theorem ko_inD {X : Cx} {K : PySem.W.Frag} (hu : X.A.units + 65 < cLine) (h : X.K = K := by rfl) : OpR X (compareOp .In) (rInD K) := by subst h; exact op_inD hu
def rListOf (K : PySem.W.Frag) : List V → Hp → VK → Prop := fun xs H Q => ∃ p ys, xs = [.ref p] ∧ (SqL K H p ys ∨ SqT K H p ys) ∧ ∀ l, H l = Option.none → Q (.ref l) (upd H l (.lst ys))
theorem kc_listOf {X : Cx} {K : PySem.W.Frag} (h : X.K = K := by rfl) : CallR X (.type "list") (rListOf K) := by subst h; exact call_list_of
theorem room65 {k : Nat} {A : Around} (r : Room k A) : A.units + 65 < cLine := by have := r.un; omega
end Cm

/-! an exception that is caught and kept as a value -/
namespace Cm
open PySem L2 PySem.Spec PyProof.Rows
/-- an exception object at a: its class, its dict -/
def ExH (a : Addr) (cls : Value) (d : Option Addr) : HO := .ext fun h => ∃ (o : Obj) (vs : Array Value), h.get? a = some o ∧ Zc cls d o ∧ o.data = .fields vs
theorem exH_ok {P : Program} {w : World} {H : Hp} {h : Heap} {a : Addr} {cls : Value} {d : Option Addr} {o : Obj} {vs : Array Value} (e : h.get? a = some o) (z : Zc cls d o) (f : o.data = .fields vs) : ObjOk P w H h a (ExH a cls d) :=
  ⟨⟨o, vs, e, z, f⟩, ⟨o, e⟩, fun h1 h2 ⟨o', vs', e', z', f'⟩ k => ⟨o', vs', k _ e', z', f'⟩⟩
theorem exH_at {P : Program} {w : World} {H : Hp} {h : Heap} {a : Addr} {cls : Value} {d : Option Addr} (hok : HOk P w H h) (e : H a = some (ExH a cls d)) : ∃ (o : Obj) (vs : Array Value), h.get? a = some o ∧ Zc cls d o ∧ o.data = .fields vs := by
  have x : ObjOk P w H h a (ExH a cls d) := hok a _ e
  exact x.1
section
variable {X : Cx} {pins : List (Addr × Obj)} {σ : L2.St} {H : Hp} {s : Shared}
theorem track {a : Addr} {o : HO} (I : Inv X pins σ H s) (na : H a = Option.none) (n0 : X.s_0.heap.get? a = Option.none) (nL : a ≠ X.env.locals) (nC : ∀ x c, X.env.cells.lookup x = some c → c ≠ a) (nP : ∀ p ∈ X.pn ++ pins, p.1 ≠ a)
    (new : ObjOk X.prog X.w (upd H a o) s.heap a o) : Inv X pins σ (upd H a o) s := by
  have other : ∀ {b : Addr} {u : HO}, H b = some u → (upd H a o) b = some u := fun {b u} e => by
    rw [upd_ne (ne_of_none e na)]
    exact e
  refine ⟨I.ok, I.os, I.bare, ⟨I.base.keep, I.base.slot, fun b u e n hx => ?_, I.base.there, fun b xs e => other (I.base.tups b xs e), fun b u xs e => other (I.base.frzs b u xs e), fun b ps e => ?_⟩, I.loc, I.cell, ?_, fun x c e => ?_, fun p hp => ?_, fun b u e => ?_, I.len⟩
  · have hb : b ≠ a := fun z => by
      rw [z, n0] at e
      cases e
    rw [upd_ne hb]
    exact I.base.free b u e n hx
  · obtain ⟨more, q⟩ := I.base.tbls b ps e
    exact ⟨more, other q⟩
  · rw [upd_ne nL.symm]
    exact I.free
  · rw [upd_ne (nC x c e)]
    exact I.freeC x c e
  · obtain ⟨e, n, ne, nf, dd⟩ := I.pin p hp
    exact ⟨e, by rw [upd_ne (nP p hp)]; exact n, ne, nf, dd⟩
  · by_cases hb : b = a
    · subst hb
      rw [upd_same] at e
      cases e
      exact new
    · rw [upd_ne hb] at e
      exact (I.hok b u e).stay (fun c v _ q => q) (fun c q => other q) fun c xs q => other q
theorem suite0 (I : Inv X pins σ H s) (a : Addr) : Inv (X.suite a (X.pn ++ pins)) [] σ H s :=
  ⟨I.ok.suite _ _, I.os, I.bare, I.base, I.loc, I.cell, I.free, I.freeC, fun p hp => I.pin p (by rw [List.append_nil] at hp; exact hp), I.hok, I.len⟩
theorem unsuite0 {a : Addr} {pn' : List (Addr × Obj)} (I : Inv (X.suite a (X.pn ++ pins)) pn' σ H s) (ok : X.Ok) : Inv X pins σ H s :=
  ⟨ok, I.os, I.bare, I.base, I.loc, I.cell, I.free, I.freeC, fun p hp => I.pin p (List.mem_append_left _ hp), I.hok, I.len⟩
end
/-- what the clause asks where the caught exception is kept -/
def wHeld (K : PySem.W.Frag) (c : Value) (i : Nat) (ts : Addr → TS) (D : Ends) : WX := fun cls d σ H =>
  PySem.W.exmOne K cls c = some true ∧ ∀ a, H a = Option.none → ts a { nx := fun σ' H' => D.nx (σ'.set i Option.none) H', rt := D.rt, bk := fun σ' H' => D.bk (σ'.set i Option.none) H', ct := fun σ' H' => D.ct (σ'.set i Option.none) H' } (σ.set i (some (.ref a))) (upd H a (ExH a cls d))
section
variable {X : Cx} {x n : Str} {c : Value} {i : Nat} {body suite : List Stmt} {b₀ : Stmt} {np pos pos' : Pos} {tb : WX → TS} {ts : Addr → TS}
theorem ps_try_held (hs : X.stack = X.env :: X.outer) (hf : X.env.frame = some X.env.locals) (hN : X.N.Nodup) (hi : X.N[i]? = some n) (hln : X.env.kindOf n = some .local) (hc : Names X x c) (hex : X.ex = [])
    (hb : ∀ (W : WX) (pn : List (Addr × Obj)) (xe : Value → Shared → Prop), Takes (X.tr pn xe) W → PassesOwn (model X.prog X.w) X.A X.env xe → PSs (X.tr pn xe) body (tb W))
    (hsu : ∀ (a : Addr) (pn : List (Addr × Obj)), PSs (X.suite a pn) (b₀ :: suite) (ts a)) :
    PS X (.Try body [.ExceptHandler (some (.Name x np)) (some n) (b₀ :: suite) pos'] [] [] pos) (fun D σ H => tb (wHeld X.K c i ts D) D σ H) := by
  refine ⟨fun pins s σ H D I h => ?_⟩
  have ok := I.ok
  have hfr : X.A.frames = some (X.env :: X.outer) := by rw [ok.frames, hs]
  refine wpAny_Try_except ?_
  refine wpAny_mono ((hb (wHeld X.K c i ts D) (X.pn ++ pins) (fun e s₁ => wpAny (model X.prog X.w) X.A (noteFrame e X.env) (fun _ s₂ => wpAny (model X.prog X.w) X.A (setFlight e Option.none) (fun _ s₃ =>
    wpAny (model X.prog X.w) X.A (handleBy e X.env [.ExceptHandler (some (.Name x np)) (some n) (b₀ :: suite) pos']) (SP X pins D) X.xe s₃) X.xe s₂) X.xe s₁) (fun u s' xx => ?_) PassesOwn.looking).run [] s σ H D (I.toTry _) h) (fun f s1 hsp => ?_) (fun e s1 he => he)
  · obtain ⟨a, B, sI, pins', σ', H', cls, d, rfl, J', nb, up, sky, na, os, ag, hb1, hyes⟩ := xx
    have J : Inv X pins σ' H' sI := J'.ofTry ok
    have sky' : Sky B (X.env :: X.outer) a (Zc cls d) X.env.locals s'.heap := by rw [← hs]; exact sky
    show wpAny _ _ (noteFrame (.ref a) X.env) _ _ _
    refine Sky.land Zc.steady hfr hf sky' fun h3 fl3 up3 => ?_
    have J3 : Inv X pins σ' H' { s' with heap := h3 } := J.landed nb fl3.1 (up.trans up3) os ag
    obtain ⟨oe3, vs3, he3, hz3, hd3⟩ := fl3.there
    have nfr : a ∉ frs X.stack := fun hm => by
      rw [hs] at hm
      obtain ⟨_, o', e', hnf⟩ := fl3.2.2.1.mem hm
      rw [he3] at e'
      cases e'
      exact hnf _ hd3
    have nsI : sI.heap.get? a = Option.none := by
      cases q : sI.heap.get? a with
      | none => rfl
      | some o =>
        have z := nb a o q nfr
        rw [fl3.2.1] at z
        cases z
    have n0 : X.s_0.heap.get? a = Option.none := by
      cases q : X.s_0.heap.get? a with
      | none => rfl
      | some o =>
        obtain ⟨o', z⟩ := J.base.there a o q (by rw [hex]; exact List.not_mem_nil)
        rw [nsI] at z
        cases z
    have nL : a ≠ X.env.locals := fun z => nfr (by
      rw [hs]
      exact List.mem_filterMap.mpr ⟨X.env, List.mem_cons_self, by rw [hf, z]⟩)
    have nC : ∀ y c, X.env.cells.lookup y = some c → c ≠ a := fun y c e z => by
      obtain ⟨v, o, ho, _⟩ := J.cell y c e
      rw [z, nsI] at ho
      cases ho
    have nP : ∀ p ∈ X.pn ++ pins, p.1 ≠ a := fun p hp z => by
      have q := (J.pin p hp).1
      rw [z, nsI] at q
      cases q
    have S3 := suite0 J3 a
    refine wpAny_handleBy_cons (codeAny_handlers_test ?_) (by intro q; cases q)
    have LT : PySem.W.Looks (model X.prog X.w) h3 (typeOf (.ref a)) cls := fun A Q E s k q => wpAny_typeOf_ref (k _ _ he3) (by rw [hz3.1]; exact q)
    have LM := PySem.W.exm_one (M := model X.prog X.w) (J3.kIn) LT hb1
    have test : ∀ {Q : Value → Shared → Prop} {E : Value → Shared → Prop}, Q c { s' with heap := h3 } → wpAny (model X.prog X.w) (X.A.mark (some (.ref a))) (eval (.Name x np) X.env) Q E { s' with heap := h3 } := fun {Q E} q => by
      obtain ⟨hg, hdbg, hm | ⟨hm, hv, hnn⟩⟩ := hc
      · exact ld_glob (X := X.suite a (X.pn ++ pins)) S3 hg hm q hdbg
      · exact ld_blt (X := X.suite a (X.pn ++ pins)) S3 hg hm hv q hnn hdbg
    refine test (LM.here ?_)
    refine codeAny_handlers_suite_as ?_
    refine HandSPX.lands_againZ fl3 fun h4 fl4 up4 => ?_
    have J4 : Inv X pins σ' H' { s' with heap := h4 } := J.landed nb fl4.1 ((up.trans up3).trans up4) os ag
    obtain ⟨oe4, vs4, he4, hz4, hd4⟩ := fl4.there
    have T4 := track (o := ExH a cls d) J4 na n0 nL nC nP (exH_ok he4 hz4 hd4)
    have S4 := suite0 T4 a
    refine store_ok (X := X.suite a (X.pn ++ pins)) (v := .ref a) S4 hN hi (.inl hln) rfl (fun s5 S5 => ?_) (.inr hln)
    refine wpAny_mono ((hsu a (X.pn ++ pins)).run [] s5 _ _ _ S5 (hyes a na)) (fun f s6 hsp => ?_) (fun _ _ z => False.elim z)
    have end_ : ∀ {σ6 : L2.St} {H6 : Hp} {Q : Shared → Prop}, Inv (X.suite a (X.pn ++ pins)) [] σ6 H6 s6 → (∀ s7, Inv X pins (σ6.set i Option.none) H6 s7 → Q s7) →
        wpAny (model X.prog X.w) X.A (do bindName X.env n .none; unbindBehindTheSuite X.env n pos') (fun _ s7 => Q s7) X.xe s6 := fun {σ6 H6 Q} S6 hq => gone_ok (unsuite0 S6 ok) hN hi hln hq
    cases f with
    | next =>
      obtain ⟨σ6, H6, S6, q6⟩ := hsp
      exact end_ S6 fun s7 J7 => ⟨_, _, J7, q6⟩
    | brk =>
      obtain ⟨σ6, H6, S6, q6⟩ := hsp
      exact end_ S6 fun s7 J7 => ⟨_, _, J7, q6⟩
    | cont =>
      obtain ⟨σ6, H6, S6, q6⟩ := hsp
      exact end_ S6 fun s7 J7 => ⟨_, _, J7, q6⟩
    | ret u =>
      obtain ⟨v6, σ6, H6, S6, r6, q6⟩ := hsp
      exact end_ S6 fun s7 J7 => ⟨_, _, _, J7, r6, q6⟩
  · cases f with
    | next =>
      obtain ⟨σ', H', J', q⟩ := hsp
      exact wpAny_execs_nil ⟨σ', H', J'.ofTry ok, q⟩
    | brk =>
      obtain ⟨σ', H', J', q⟩ := hsp
      exact ⟨σ', H', J'.ofTry ok, q⟩
    | cont =>
      obtain ⟨σ', H', J', q⟩ := hsp
      exact ⟨σ', H', J'.ofTry ok, q⟩
    | ret u =>
      obtain ⟨v, σ', H', J', r, q⟩ := hsp
      exact ⟨v, σ', H', J'.ofTry ok, r, q⟩
end
/-! ### isinstance(x, C), x a kept exception of just that class -/
theorem ans_same {x t : Value} {P : Heap → Prop} (ty : ∀ (M : Model) (h : Heap), P h → PySem.W.Looks M h (typeOf x) t) : Answers (fun s => P s.heap) x t true := by
  intro dep tk prog w A R s hs
  obtain ⟨h0, g, d, tt, os⟩ := s
  obtain ⟨p, hq⟩ := hs
  have LT := ty (model prog w) h0 p
  unfold Builtin.«isinstance.nested»
  refine wpAny_bind (LT.at ?_)
  have q : (t == t) = true := beq_self_eq_true t
  rw [if_pos q]
  first
    | exact wpAny_bind (wpAny_rule (hq tt))
    | exact wpAny_bind (wpAny_rule (wpAny_pure (hq tt)))
    | exact wpAny_pure (hq tt)
def rIsX : List V → Hp → VK → Prop := fun xs H Q => ∃ (a C : Addr) (d : Option Addr), xs = [.ref a, .ref C] ∧ H a = some (ExH a (.ref C) d) ∧ Q (.bl true) H
theorem call_isX {X : Cx} : CallR X (.builtin "isinstance") rIsX := by
  intro pins s σ H xs us Q I r h
  obtain ⟨a, C, d, rfl, e, q⟩ := h
  obtain ⟨u1, u2, rfl, r1, r2⟩ := vals2 r
  obtain rfl : u1 = Value.ref a := r1
  obtain rfl : u2 = Value.ref C := r2
  obtain ⟨o, vs, ho, z, f⟩ := exH_at I.hok e
  refine call_isinstance (S := fun _ R s => (∃ o, s.heap.get? a = some o ∧ o.cls = .ref C) ∧ ∀ tk, R (.ok (.ret (.bool true))) { s with toks := tk })
    (fun prog w A R s hs => isinstance_outer (ans_same (P := fun h => ∃ o, h.get? a = some o ∧ o.cls = .ref C) (fun M h ⟨o, e, c⟩ => fun A Q E s k q => wpAny_typeOf_ref (k _ _ e) (by rw [c]; exact q)) 0 _ prog w A R s hs) (fun z => nomatch z)) ⟨⟨o, ho, z.1⟩, fun tk => ⟨.bl true, H, I.tok tk, rfl, q⟩⟩
/-! ### x.f, x a kept exception -/
def tFldX (K : PySem.W.Frag) (f : Str) (te : TE) : TE := fun σ H Q => te σ H fun x H1 => ∃ (a C dd : Addr) (fs : List (Str × V)) (v : V), x = .ref a ∧ XfC K C ∧ PySem.W.findIn K (.ref C) f = some Option.none ∧ H1 a = some (ExH a (.ref C) (some dd)) ∧ H1 dd = some (.xd fs) ∧ fs.lookup f = some v ∧ Q v H1
theorem pe_fldX {X : Cx} {e : Expr} {te : TE} {pos : Pos} {n : Str} (he : PE X e te) (hb : attributeBase e n X.env (eval e X.env) = eval e X.env := by rfl) : PE X (.Attribute e n pos) (tFldX X.K n te) := by
  refine ⟨fun pins s σ H Q I h => ?_⟩
  refine attr_of hb (thn (he.run pins s σ H _ I h) fun u s1 hh => ?_)
  obtain ⟨x, H1, I1, rx, a, C, dd, fs, v, ex, T, hno, eh, ea, l, q⟩ := hh
  subst ex
  obtain rfl : u = Value.ref a := rx
  obtain ⟨oe, vs, ha, hz, hd⟩ := exH_at I1.hok eh
  have hx : ObjOk X.prog X.w H1 s1.heap dd (.xd fs) := I1.hok dd _ ea
  obtain ⟨mA, hns, hr⟩ := hx
  obtain ⟨od, ho, hl⟩ := lookIn_ns hns
  obtain ⟨u, hu, ru⟩ := RelO.some_of (v := v) (o := mA n) (by rw [← l]; exact hr n)
  have J : PySem.W.InstAt s1.heap a oe C (some od) := ⟨ha, hz.1, by unfold PySem.W.notCls; rw [hd] <;> rfl, by rw [hz.2]; exact ho⟩
  exact HandSPX.exc_get I1.kIn J T.ga T.gg T.exC (PySem.W.findObj_own T.hdC hno rfl (by rw [hl, hu])) (handed_of ru) ⟨v, H1, I1.tok _, ru, q⟩
end Cm

set_option linter.all false
/-! closures that outlive the def that makes them: the lambda's object and its cells are known to the abstract heap -/
namespace Cm
open PySem L2 PySem.Spec PyProof.Rows LamX NdefX
/-- the cell at c holds v -/
def CellO (c : Addr) (v : V) : HO := .ext fun h => ∃ u, L2.RelV v u ∧ h.IsCell c (some u)
theorem cellO_ok {P : Program} {w : World} {H : Hp} {h : Heap} {c : Addr} {v : V} {u : Value} (r : L2.RelV v u) (e : h.IsCell c (some u)) : ObjOk P w H h c (CellO c v) :=
  ⟨⟨u, r, e⟩, let ⟨o, ho, _⟩ := e; ⟨o, ho⟩, fun h1 h2 ⟨u', r', o', e', d'⟩ k => ⟨u', r', o', k _ e', d'⟩⟩
theorem cellO_at {P : Program} {w : World} {H : Hp} {h : Heap} {c : Addr} {v : V} (hok : HOk P w H h) (e : H c = some (CellO c v)) : ∃ u, L2.RelV v u ∧ h.IsCell c (some u) := by
  have x : ObjOk P w H h c (CellO c v) := hok c _ e
  exact x.1
/-- the object at f is the lambda F with the body e -/
def LamO (f : Addr) (F : NF) (e : Expr) : HO := .ext fun h => ∃ pm ctv, h.get? f = some (PySem.W.kla_obj F.name F.qual F.params e F.scope F.cl pm F.c ctv)
theorem lamO_ok {P : Program} {w : World} {H : Hp} {h : Heap} {f : Addr} {F : NF} {e : Expr} {pm ctv : Value} (g : h.get? f = some (PySem.W.kla_obj F.name F.qual F.params e F.scope F.cl pm F.c ctv)) : ObjOk P w H h f (LamO f F e) :=
  ⟨⟨pm, ctv, g⟩, ⟨_, g⟩, fun h1 h2 ⟨pm', ctv', e'⟩ k => ⟨pm', ctv', k _ e'⟩⟩
theorem lamO_at {P : Program} {w : World} {H : Hp} {h : Heap} {f : Addr} {F : NF} {e : Expr} (hok : HOk P w H h) (g : H f = some (LamO f F e)) : ∃ pm ctv, h.get? f = some (PySem.W.kla_obj F.name F.qual F.params e F.scope F.cl pm F.c ctv) := by
  have x : ObjOk P w H h f (LamO f F e) := hok f _ g
  exact x.1
/-! cells told and untold -/
def InjC (cl : List (Str × Addr)) : Prop := ∀ x y c, cl.lookup x = some c → cl.lookup y = some c → x = y
open Classical in
/-- the cells of cl told: each holds what val has for it -/
noncomputable def expH (cl : List (Str × Addr)) (val : Str → Option V) (H : Hp) : Hp := fun b => if h : ∃ y, cl.lookup y = some b then (val h.choose).map (CellO b) else H b
open Classical in
/-- .. and untold -/
noncomputable def hideH (cl : List (Str × Addr)) (H : Hp) : Hp := fun b => if ∃ y, cl.lookup y = some b then none else H b
section
variable {cl : List (Str × Addr)} {val : Str → Option V} {H H' : Hp} {b c : Addr} {y : Str}
theorem expH_cell (i : InjC cl) (e : cl.lookup y = some c) : expH cl val H c = (val y).map (CellO c) := by
  have h : ∃ y, cl.lookup y = some c := ⟨y, e⟩
  unfold expH
  rw [dif_pos h, i _ _ _ h.choose_spec e]
theorem expH_other (n : ∀ y, cl.lookup y ≠ some b) : expH cl val H b = H b := by
  unfold expH
  rw [dif_neg fun ⟨y, e⟩ => n y e]
theorem hideH_cell (e : cl.lookup y = some c) : hideH cl H c = none := by
  unfold hideH
  rw [if_pos ⟨y, e⟩]
theorem hideH_other (n : ∀ y, cl.lookup y ≠ some b) : hideH cl H b = H b := by
  unfold hideH
  rw [if_neg fun ⟨y, e⟩ => n y e]
theorem hideH_none (e : H b = none) : hideH cl H b = none := by
  by_cases h : ∃ y, cl.lookup y = some b
  · obtain ⟨y, e⟩ := h
    exact hideH_cell e
  · rw [hideH_other fun y e => h ⟨y, e⟩]
    exact e
/-- what is told and no cell stays -/
theorem expH_keep {o : HO} (fr : ∀ y c, cl.lookup y = some c → H c = none) (e : H b = some o) : expH cl val H b = some o := by
  rw [expH_other fun y e' => by rw [fr y b e'] at e; cases e]
  exact e
theorem exp_hok {P : Program} {w : World} {h : Heap} (hok : HOk P w H h) (i : InjC cl) (fr : ∀ y c, cl.lookup y = some c → H c = none) (cs : ∀ y c v, cl.lookup y = some c → val y = some v → ∃ u, L2.RelV v u ∧ h.IsCell c (some u)) : HOk P w (expH cl val H) h := by
  intro a o e
  by_cases hc : ∃ y, cl.lookup y = some a
  · obtain ⟨y, ey⟩ := hc
    rw [expH_cell i ey] at e
    cases ev : val y with
    | none => rw [ev] at e; cases e
    | some v =>
      rw [ev] at e
      obtain rfl := (Option.some.inj e : CellO a v = o)
      obtain ⟨u, r, g⟩ := cs y a v ey ev
      exact cellO_ok r g
  · rw [expH_other fun y e' => hc ⟨y, e'⟩] at e
    exact (hok a o e).stay (fun c v _ q => q) (fun c q => expH_keep fr q) fun c xs q => expH_keep fr q
/-- what a lambda's cells hold -/
structure CellsH (cl : List (Str × Addr)) (fr : List Str) (ws : List V) (H : Hp) : Prop where
  len : ws.length = fr.length
  inj : InjC cl
  all : ∀ y c, cl.lookup y = some c → y ∈ fr
  has : ∀ (i : Nat) (y : Str), fr[i]? = some y → ∃ c v, cl.lookup y = some c ∧ ws[i]? = some v ∧ H c = some (CellO c v)
theorem CellsH.told {fr : List Str} {ws : List V} (C : CellsH cl fr ws H) (e : cl.lookup y = some c) : ∃ v, H c = some (CellO c v) := by
  obtain ⟨i, hi⟩ := List.mem_iff_getElem?.mp (C.all y c e)
  obtain ⟨c', v, e', _, z⟩ := C.has i y hi
  rw [e] at e'
  cases e'
  exact ⟨v, z⟩
theorem hide_keep {fr : List Str} {ws : List V} {o : HO} (C : CellsH cl fr ws H) (e : H b = some o) (n : ∀ v, o ≠ CellO b v) : hideH cl H b = some o := by
  rw [hideH_other fun y e' => by
    obtain ⟨v, z⟩ := C.told e'
    rw [e] at z
    exact n v (Option.some.inj z)]
  exact e
theorem hide_back {o : HO} (e : hideH cl H b = some o) : H b = some o := by
  by_cases h : ∃ y, cl.lookup y = some b
  · obtain ⟨y, ey⟩ := h
    rw [hideH_cell ey] at e
    cases e
  · rw [hideH_other fun y e => h ⟨y, e⟩] at e
    exact e
theorem hide_hok {P : Program} {w : World} {h : Heap} {fr : List Str} {ws : List V} (hok : HOk P w H h) (C : CellsH cl fr ws H) : HOk P w (hideH cl H) h := by
  intro a o e
  exact (hok a o (hide_back e)).stay (fun c v _ q => q) (fun c q => hide_keep C q fun v z => by unfold CellO at z; cases z) fun c xs q => hide_keep C q fun v z => by unfold CellO at z; cases z
theorem CellsH.at {P : Program} {w : World} {h : Heap} {fr : List Str} {ws : List V} (C : CellsH cl fr ws H) (hok : HOk P w H h) : CellsAt cl fr (ws.map some) h (hideH cl H) := by
  refine ⟨by rw [List.length_map]; exact C.len, fun y c e => ⟨hideH_cell e, ?_⟩, C.inj, fun i y e => ?_⟩
  · obtain ⟨v, z⟩ := C.told e
    obtain ⟨u, _, g⟩ := cellO_at hok z
    exact ⟨_, g⟩
  · obtain ⟨c, v, e1, e2, e3⟩ := C.has i y e
    refine ⟨c, e1, fun v' e' => ?_⟩
    rw [List.getElem?_map, e2] at e'
    cases e'
    exact cellO_at hok e3
/-- what the i-th name has -/
def valOf (fr : List Str) (ws : List V) (y : Str) : Option V := (fr.zip ws).lookup y
end
theorem zip_at {fr : List Str} {ws : List V} {y : Str} {v : V} (h : (fr.zip ws).lookup y = some v) : ∃ i : Nat, fr[i]? = some y ∧ ws[i]? = some v := by
  have m := PySem.mem_of_lookup h
  obtain ⟨i, hi⟩ := List.mem_iff_getElem?.mp m
  have := List.getElem?_zip_eq_some.mp hi
  exact ⟨i, this.1, this.2⟩
/-- the promise of a lambda: sp ws, ws what its cells hold -/
structure LOk (P : Program) (w : World) (K : PySem.W.Frag) (mg : Str → Option Value) (base : Heap) (k : Nat) (f : Addr) (F : NF) (e : Expr) (ps fr : List Str) (sp : List V → Sp) : Prop where
  len : ∀ ws vs H Q E, sp ws vs H Q E → vs.length = ps.length
  run : ∀ (A : Around) (outer : List Env) (s : Shared) (H : Hp) (us : List Value) (vs ws : List V) (Q : VK) (E : XK), Room k A → Env0 P w K mg base A outer s H → H f = some (LamO f F e) → H F.c = some (CodeO F.c F.qual) →
    CellsH F.cl fr ws H → Vals vs us → sp ws vs H Q E → codeAny (model P w) A (.call (.ref f) ⟨us, []⟩) (CR CX0 outer P w H s Q E) s
section
variable {P : Program} {w : World} {K : PySem.W.Frag} {mg : Str → Option Value} {base : Heap} {N ps fr : List Str} {F : NF} {f : Addr} {e : Expr} {k : Nat} {sp : List V → Sp}
theorem env0_hide {A : Around} {outer : List Env} {s : Shared} {H : Hp} {ws : List V} (e0 : Env0 P w K mg base A outer s H) (C : CellsH F.cl fr ws H) : Env0 P w K mg base A outer s (hideH F.cl H) :=
  ⟨e0.frames, e0.mod, fun b o e => ⟨(e0.bs b o e).1, hideH_none (e0.bs b o e).2⟩, e0.bsz, e0.funs, fun b hb => hideH_none (e0.frf b hb), hide_hok e0.hok C, e0.bare⟩
/-- THE RULE: a lambda by its body; its cells are its frame's while it runs, and told again when it ends -/
theorem lok_of (S : NScope N ps fr F.scope) (hb : ∀ (pm ctv : Value) (us : List Value), us.length = ps.length → bindArgs (PySem.W.kla_fn F.name F.qual F.params e F.scope F.cl pm (.ref F.c) ctv) ⟨us, []⟩ = pure (ps.zip us)) (len : ∀ ws vs H Q E, sp ws vs H Q E → vs.length = ps.length)
    (hbody : ∀ (A : Around) (outer : List Env) (s : Shared) (H : Hp) (vs ws : List V) (Q : VK) (E : XK), Room k (A.deeper (envF F f s.heap.objs.size)) → H f = some (LamO f F e) → H F.c = some (CodeO F.c F.qual) → CellsH F.cl fr ws H → sp ws vs H Q E →
      ∃ t, PE (ncx CX0 P w K mg base N F f A outer s (hideH F.cl H) E) e t ∧ t (startF N vs (ws.map some)) (hideH F.cl H) fun v H' => (∀ y c, F.cl.lookup y = some c → H' c = none) → Q v (expH F.cl (valOf fr ws) H')) :
    LOk P w K mg base (k + 1) f F e ps fr sp := by
  refine ⟨len, fun A outer s H us vs ws Q E hr e0 hf hc C r hsp => ?_⟩
  have hl := len _ _ _ _ _ hsp
  have lim : s.heap.NoLimit := e0.mod.nolimit.keeps fun b o e => (e0.bs b o e).1
  obtain ⟨pm, ctv, ho⟩ := lamO_at e0.hok hf
  refine PySem.W.kla_callFunE hr.depth ho rfl S.co S.gen rfl (codeO_at e0.hok hc) ?_
  rw [hb pm ctv us (by rw [← r.length]; exact hl)]
  refine wpAny_pure (wpAny_newFunctionEnv S.nocell (fun ⟨n, _⟩ hy => S.par n (List.of_mem_zip hy).1) (fun h₁ hns hsb => ⟨lim.fresh _ hsb, ?_⟩) S.kind)
  show codeAny _ _ (.expr e (envF F f s.heap.objs.size)) _ _
  have kp : ∀ b o, s.heap.get? b = some o → h₁.get? b = some o := fun b o e => hsb.extBut b o (Nat.ne_of_lt (Heap.lt_size e)) (Heap.get?_push_of_some _ e)
  obtain ⟨t, ht, hq⟩ := hbody A outer s H vs ws Q E (hr.deeper _) hf hc C hsp
  have CA := C.at e0.hok
  have I : Inv (ncx CX0 P w K mg base N F f A outer s (hideH F.cl H) E) [] (startF N vs (ws.map some)) (hideH F.cl H) { s with heap := h₁, toks := s.toks + (ps.zip us).length } := inv_startN S hr.hd (env0_hide e0 C) hl r CA hns kp
  refine PySem.W.kla_codeExpr (wpAny_mono (ht.run [] _ (startF N vs (ws.map some)) _ _ I hq) (fun u s' hs => ?_) fun e s' hs => hs)
  obtain ⟨v, H', J, rv, q⟩ := hs
  have fr' : ∀ y c, F.cl.lookup y = some c → H' c = none := fun y c e => J.freeC y c e
  have isCell : ∀ {b : Addr} {o : HO}, H b = some o → (∀ v, o ≠ CellO b v) → ∀ y, F.cl.lookup y ≠ some b := fun {b o} e n y e' => by
    obtain ⟨v, z⟩ := C.told e'
    rw [e] at z
    exact n v (Option.some.inj z)
  refine ⟨v, expH F.cl (valOf fr ws) H', J.os, J.bare, ⟨fun b o e n hb hx => J.base.keep b o e (hideH_none n) hb hx, fun b o e n hb hx => J.base.slot b o e (hideH_none n) hb hx, fun b o e n hx => ?_, fun b o e hx => J.base.there b o e hx, fun b xs e => ?_, fun b o u e => ?_, fun b ps e => ?_⟩,
    exp_hok J.hok C.inj fr' fun y c v e ev => ?_, rv, q fr'⟩
  · rw [expH_other fun y e' => by
      obtain ⟨v, z⟩ := C.told e'
      rw [n] at z
      cases z]
    exact J.base.free b o e (hideH_none n) hx
  · exact expH_keep fr' (J.base.tups b xs (hide_keep C e fun v z => by unfold CellO at z; cases z))
  · exact expH_keep fr' (J.base.frzs b o u (hide_keep C e fun v z => by unfold CellO at z; cases z))
  · obtain ⟨more, z⟩ := J.base.tbls b ps (hide_keep C e fun v z => by unfold CellO at z; cases z)
    exact ⟨more, expH_keep fr' z⟩
  · obtain ⟨i, e1, e2⟩ := zip_at ev
    have hcl := hl
    obtain ⟨m, _, hlk⟩ := J.loc
    have hpre : N[ps.length + i]? = some y := by
      have hlt : i < fr.length := (List.getElem?_eq_some_iff.mp e1).1
      have q : (N.take (ps.length + fr.length))[ps.length + i]? = (ps ++ fr)[ps.length + i]? := by rw [S.pre]
      rw [List.getElem?_take_of_lt (by omega), List.getElem?_append_right (by omega), Nat.add_sub_cancel_left, e1] at q
      exact q
    have hσ : (startF N vs (ws.map some))[ps.length + i]? = some (some v) := by
      unfold startF
      rw [List.getElem?_append_right (by rw [List.length_map]; omega), show ps.length + i - (List.map some vs).length = i by rw [List.length_map]; omega, List.getElem?_append_left (by rw [List.length_map]; exact (List.getElem?_eq_some_iff.mp e2).1), List.getElem?_map, e2]
      rfl
    have hk := S.frk y (List.mem_of_getElem? e1)
    obtain ⟨u', r', l'⟩ := hlk _ y v hpre hσ (.inr (.inr hk))
    rcases l' with ⟨z, _⟩ | ⟨_, c', ec, hcell⟩
    · have z' : F.scope.names.lookup y = some .local := z
      rw [hk] at z'
      cases z'
    · have ec' : F.cl.lookup y = some c' := ec
      rw [e] at ec'
      cases ec'
      exact ⟨u', r', hcell⟩
end
end Cm

set_option linter.all false
/-! a lambda as a value; a call of a name that holds one; a def that hands its cells on -/
namespace Cm
open PySem L2 PySem.Spec PyProof.Rows LamX NdefX
section
variable {X : Cx} {pins : List (Addr × Obj)} {σ : L2.St} {H : Hp} {s : Shared}
/-- a lambda's object just made is told -/
theorem inv_lam {F : NF} {e : Expr} {t' : Nat} {pm ctv : Value} {h : Heap} (I : Inv X pins σ H { s with heap := h, toks := t' }) :
    Inv X pins σ (upd H h.objs.size (LamO h.objs.size F e)) { s with heap := h.push (PySem.W.kla_obj F.name F.qual F.params e F.scope F.cl pm F.c ctv), toks := t' } :=
  I.laid (a := h.objs.size) (fun b u g => Heap.get?_push_of_some _ g) (Nat.le_refl _) (lamO_ok (pm := pm) (ctv := ctv) (Heap.get?_push_size _ rfl))
/-- the lambda is made: its code object is new, or found in the table -/
theorem lam_make {T : List (Addr × Str)} {c P : Addr} {params : Arguments} {body : Expr} {scope : Scope} {pos : Pos} {E : Value → Shared → Prop} {Q : Value → Shared → Prop} (I : Inv X pins σ H s) (TB : TabB X.base X.mg c P) (hcode : X.env.code = .ref c)
    (hm : (P, X.env.qual ++ "<lambda>") ∈ T) (hu : ∀ p ∈ T, p.1 = P → p.2 = X.env.qual ++ "<lambda>") (hT : Tabs T H) (hdef : defaultsOf params X.env = ([], [])) (hfree : ∀ y ∈ scope.names, y.2 = .free → ∃ c, X.env.cells.lookup y.1 = some c)
    (h : ∀ (f c' : Addr) (H1 : Hp) (s' : Shared), Inv X pins σ H1 s' → ExtN H H1 → Tabs T H1 → H f = none → H1 f = some (LamO f ⟨"<lambda>", X.env.qual ++ "<lambda>", params, [], scope, cloFrom X.env.cells scope.names [], c'⟩ body) → H1 c' = some (CodeO c' (X.env.qual ++ "<lambda>")) → Q (.ref f) s') :
    wpAny (model X.prog X.w) X.A (eval (.Lambda params body scope pos) X.env) Q E s := by
  obtain ⟨ps, hP, ht, ha⟩ := hT _ hm
  have bP : s.heap.BuiltinsAt X.mg P := TB.bm.keeps I.bk
  have hP' : s.heap.get? P = some { cls := .none, data := .fields ps } := I.hok P _ hP
  refine PySem.W.kla_eval hdef ?_
  cases hc : codeAmong pos ps.toList with
  | none =>
    refine PySem.W.kla_makeFunction (mg := X.mg) (c := c) (P := P) (ps := ps) (closure_ok hfree) I.ok.glob (I.mod.glob.keeps I.bk) hcode (TB.code.keeps I.bk) hP' ht hc TB.gP bP fun c' ctv h' tk hx hge hlt hrec htb => ?_
    obtain ⟨c2, oc, vs, t, e2, hoc, hd, hv⟩ := hrec
    cases e2
    have nC : H c' = none := I.hok.fresh hge
    have I1 := inv_table (t' := tk) (more := #[rawInt pos.line, rawInt pos.col, .ref c']) (h' := h') I hP (fun b o hb e => hx b o hb e) htb hge ⟨oc, vs, t, hoc, hd, hv⟩
    have nf := I1.hok.fresh (Nat.le_refl h'.objs.size)
    have hE : ExtN H (upd (upd H P (.tbl (ps ++ #[rawInt pos.line, rawInt pos.col, .ref c']))) c' (CodeO c' (X.env.qual ++ "<lambda>"))) := fun b o e n => by
      rw [upd_ne (ne_of_none e nC), upd_ne (fun z => n ps (Option.some.inj (e.symm.trans (by rw [z]; exact hP))))]
      exact e
    have ext : ∀ b o, upd (upd H P (.tbl (ps ++ #[rawInt pos.line, rawInt pos.col, .ref c']))) c' (CodeO c' (X.env.qual ++ "<lambda>")) b = some o →
        upd (upd (upd H P (.tbl (ps ++ #[rawInt pos.line, rawInt pos.col, .ref c']))) c' (CodeO c' (X.env.qual ++ "<lambda>"))) h'.objs.size (LamO h'.objs.size ⟨"<lambda>", X.env.qual ++ "<lambda>", params, [], scope, cloFrom X.env.cells scope.names [], c'⟩ body) b = some o := fun b o e => by
      rw [upd_ne (ne_of_none e nf)]
      exact e
    have eL : (ps ++ #[rawInt pos.line, rawInt pos.col, .ref c']).toList = ps.toList ++ [rawInt pos.line, rawInt pos.col, .ref c'] := by simp
    refine h h'.objs.size c' _ _ (inv_lam (F := ⟨"<lambda>", X.env.qual ++ "<lambda>", params, [], scope, cloFrom X.env.cells scope.names [], c'⟩) (pm := (X.mg "__name__").getD .none) (ctv := ctv) I1) (fun b o e n => ext b o (hE b o e n)) (Tabs.ext (fun p hp => ?_) ext) (I.hok.fresh (Nat.le_trans hge (Nat.le_of_lt hlt))) upd_same (ext _ _ upd_same)
    by_cases hb : p.1 = P
    · rw [hu p hp hb, hb]
      refine ⟨_, by rw [upd_ne (ne_of_none hP nC), upd_same], by rw [eL]; exact PySem.TriplesOk_snoc _ _ _ _ ht, fun p' cv hcv => ?_⟩
      rw [eL] at hcv
      rcases among_app _ ht hcv with z | z
      · obtain ⟨c0, e1, e2⟩ := ha p' cv z
        exact ⟨c0, e1, hE _ _ e2 codeO_ne⟩
      · exact ⟨c', z, upd_same⟩
    · obtain ⟨ps', a1, a2, a3⟩ := hT p hp
      refine ⟨ps', by rw [upd_ne (ne_of_none a1 nC), upd_ne hb]; exact a1, a2, fun p' cv hcv => ?_⟩
      obtain ⟨c0, e1, e2⟩ := a3 p' cv hcv
      exact ⟨c0, e1, hE _ _ e2 codeO_ne⟩
  | some cv =>
    obtain ⟨c', e, hco⟩ := ha pos cv hc
    subst e
    refine PySem.W.kla_makeFunctionHit (mg := X.mg) (c := c) (P := P) (ps := ps) (closure_ok hfree) I.ok.glob (I.mod.glob.keeps I.bk) hcode (TB.code.keeps I.bk) hP' ht hc bP fun ctv h' tk hx hsz => ?_
    have I1 : Inv X pins σ H { s with heap := h', toks := tk } := I.kept hx
    have nf := I1.hok.fresh (Nat.le_refl h'.objs.size)
    have ext : ∀ b o, H b = some o → upd H h'.objs.size (LamO h'.objs.size ⟨"<lambda>", X.env.qual ++ "<lambda>", params, [], scope, cloFrom X.env.cells scope.names [], c'⟩ body) b = some o := fun b o e => by
      rw [upd_ne (ne_of_none e nf)]
      exact e
    exact h h'.objs.size c' _ _ (inv_lam (F := ⟨"<lambda>", X.env.qual ++ "<lambda>", params, [], scope, cloFrom X.env.cells scope.names [], c'⟩) (pm := (X.mg "__name__").getD .none) (ctv := ctv) I1) (ExtN.of ext) (hT.ext ext) nf upd_same (ext _ _ hco)
end
/-- the reading of «lambda ..: e» as a value -/
def tLamV (T : List (Addr × Str)) (q : Str) (params : Arguments) (e : Expr) (scope : Scope) (cl : List (Str × Addr)) : TE := fun σ H Q => Tabs T H ∧ ∀ (f c' : Addr) (H1 : Hp), ExtN H H1 → Tabs T H1 → H f = none → H1 f = some (LamO f ⟨"<lambda>", q, params, [], scope, cl, c'⟩ e) → H1 c' = some (CodeO c' q) → Q (.ref f) H1
theorem pe_lamV {X : Cx} {T : List (Addr × Str)} {c P : Addr} {params : Arguments} {body : Expr} {scope : Scope} {pos : Pos} (TB : TabB X.base X.mg c P) (hcode : X.env.code = .ref c)
    (hm : (P, X.env.qual ++ "<lambda>") ∈ T) (hu : ∀ p ∈ T, p.1 = P → p.2 = X.env.qual ++ "<lambda>") (hdef : defaultsOf params X.env = ([], [])) (hfree : ∀ y ∈ scope.names, y.2 = .free → X.env.scope.names.lookup y.1 = some .cell ∨ X.env.scope.names.lookup y.1 = some .free) :
    PE X (.Lambda params body scope pos) (tLamV T (X.env.qual ++ "<lambda>") params body scope (cloFrom X.env.cells scope.names [])) := by
  refine ⟨fun pins s σ H Q I h => ?_⟩
  obtain ⟨hT, h⟩ := h
  have hf : ∀ y ∈ scope.names, y.2 = .free → ∃ c, X.env.cells.lookup y.1 = some c := fun y hy e => (hfree y hy e).elim (fun z => I.ok.has _ (.inl z)) fun z => I.ok.has _ (.inr z)
  exact lam_make I TB hcode hm hu hT hdef hf fun f c' H1 s' I1 eN T1 f0 f1 c1 => ⟨.ref f, H1, I1, rfl, h f c' H1 eN T1 f0 f1 c1⟩
/-- f(..), f a name that holds a lambda with these words -/
def tCallL (q : Str) (params : Arguments) (e : Expr) (scope : Scope) (fr : List Str) (i : Nat) (sp : List V → Sp) (t : TA) : TE := fun σ H Q => ∃ f cl c, σ[i]? = some (some (.ref f)) ∧ H f = some (LamO f ⟨"<lambda>", q, params, [], scope, cl, c⟩ e) ∧
  t σ H fun vs H1 => H1 f = some (LamO f ⟨"<lambda>", q, params, [], scope, cl, c⟩ e) ∧ H1 c = some (CodeO c q) ∧ ∃ ws, CellsH cl fr ws H1 ∧ sp ws vs H1 Q E0
section
variable {X : Cx} {q : Str} {params : Arguments} {b : Expr} {scope : Scope} {ps fr : List Str} {i j k : Nat} {x : Str} {sp : List V → Sp} {t : TA} {e : Expr} {es : List Expr} {p pos : Pos}
theorem pe_callL (Fn : ∀ f cl c, LOk X.prog X.w X.K X.mg X.base k f ⟨"<lambda>", q, params, [], scope, cl, c⟩ b ps fr sp) (hr : Room j X.A) (hk : k ≤ j) (hN : X.N[i]? = some x) (hv : Vis X.env.scope x) (ha : PA X (e :: es) t)
    (hd : (x == ("__debug__" : Str)) = false := by decide) (hcd : (x == ("__classdict__" : Str)) = false := by decide)
    (he : starEach (e :: es) X.env = (false, eval e X.env) :: starEach es X.env := by rfl) (hpl : (backTo pos (starEach es X.env)).any (·.1) = false := by rfl) :
    PE X (.Call (.Name x p) (e :: es) [] pos) (tCallL q params b scope fr i sp t) := by
  refine ⟨fun pins s σ H Q I h => ?_⟩
  obtain ⟨f, cl, c, hs, hf, ht⟩ := h
  refine wpAny_Call_Name_kw (thn ((pe_var (pos := p) hN hv hd hcd).run pins s σ H (fun v H1 => v = .ref f ∧ H1 = H) I ⟨.ref f, hs, rfl, rfl⟩) fun u s1 ⟨v, H1, I1, r1, q1⟩ => ?_)
  obtain ⟨ev, eH⟩ := q1
  subst ev
  rw [eH] at I1
  obtain rfl : u = Value.ref f := r1
  have fa : ∀ {H s}, Inv X pins σ H s → H f = some (LamO f ⟨"<lambda>", q, params, [], scope, cl, c⟩ b) → PySem.W.FnAt f s.heap := fun I e => by
    obtain ⟨pm, ctv, ho⟩ := lamO_at I.hok e
    exact ⟨_, _, _, _, ho⟩
  refine PySem.W.callWith_F (first := []) (fa I1 hf) (thn (ha.run pos pins s1 σ H _ I1 ht) fun us s2 ⟨vs, H2, I2, r, h1, h2, ws, C, q⟩ => ⟨fa I2 h1, ?_⟩) he hpl
  show wpAny _ _ (call (.ref f) us) _ _ _
  refine wpAny_call (codeAny_mono ((Fn f cl c).run X.A X.stack s2 H2 us vs ws Q E0 (hr.mono hk) I2.env0 h1 h2 C r q) fun r s' hq => ?_)
  cases r with
  | error e => exact (show False from hq).elim
  | ok fl =>
    cases fl with
    | ret u => exact I2.after hq
    | next => exact False.elim hq
    | brk => exact False.elim hq
    | cont => exact False.elim hq
end
end Cm

set_option linter.all false
/-! a def that hands its cells on: when it returns, they are told -/
namespace Cm
open PySem L2 PySem.Spec PyProof.Rows LamX NdefX
/-- what the names hold -/
def valS (N : List Str) (σ : L2.St) (y : Str) : Option V := match (N.zip σ).lookup y with
  | some (some v) => some v
  | _ => none
theorem valS_at {N : List Str} {σ : L2.St} {y : Str} {v : V} (h : valS N σ y = some v) : ∃ i : Nat, N[i]? = some y ∧ σ[i]? = some (some v) := by
  unfold valS at h
  cases e : (N.zip σ).lookup y with
  | none => rw [e] at h; cases h
  | some o =>
    rw [e] at h
    cases o with
    | none => cases h
    | some v' =>
      cases h
      obtain ⟨i, hi⟩ := List.mem_iff_getElem?.mp (PySem.mem_of_lookup e)
      have := List.getElem?_zip_eq_some.mp hi
      exact ⟨i, this.1, this.2⟩
theorem cellsFrom_kind {y : Str} {c : Addr} : ∀ {names : List (Str × NameKind)} {n : Nat} {acc : List (Str × Addr)}, (cellsFrom n names acc).lookup y = some c → (y, NameKind.cell) ∈ names ∨ acc.lookup y = some c
  | [], _, _, h => .inr h
  | (x, kd) :: r, n, acc, h => by
    unfold cellsFrom at h
    by_cases z : (kd == .cell) = true
    · rw [if_pos z] at h
      have ez : kd = .cell := by
        cases kd <;> first | rfl | cases z
      rcases cellsFrom_kind h with q | q
      · exact .inl (List.mem_cons_of_mem _ q)
      · by_cases exy : y = x
        · subst exy
          subst ez
          exact .inl List.mem_cons_self
        · rw [List.lookup_cons, show (y == x) = false from beq_eq_false_iff_ne.mpr exy] at q
          exact .inr q
    · rw [if_neg z] at h
      rcases cellsFrom_kind h with q | q
      · exact .inl (List.mem_cons_of_mem _ q)
      · exact .inr q
section
variable {P : Program} {w : World} {K : PySem.W.Frag} {mg : Str → Option Value} {base : Heap}
theorem okC {x qual : Str} {st st1 : Stmt} {e : Expr} {rp : Pos} {f : Addr} {oc : Value} {od : Option Addr} {kV doc pm cdv ct : Value} {an : Option Addr} {osl : Array (Option Value)} {N ps : List Str} {k : Nat} {sp : Sp}
    (lk : K.lookup f = some ⟨oc, od, .func (PySem.W.fnOf x qual (defArgs st) (defBody st) (defScope st) .none kV doc pm an cdv ct), osl⟩) (hcd : PySem.W.codeIn K cdv qual = true) (eb : defBody st = [st1, .Return (some e) rp]) (S : FnScope N ps (defScope st))
    (kc : ((defScope st).names.all fun p => !decide (p.2 = .cell) || decide ((defScope st).names.lookup p.1 = some .cell)) = true) (len : ∀ vs H Q E, sp vs H Q E → vs.length = ps.length)
    (hbody : ∀ (A : Around) (outer : List Env) (s : Shared) (H : Hp) (vs : List V) (Q : VK) (E : XK), Room k (A.deeper (envOfC qual (defScope st) s.heap.objs.size f cdv)) → sp vs H Q E →
      ∃ t te, PS (cxOf CX0 P w K mg base N qual (defScope st) f cdv A outer s H E).nox st1 t ∧ PE (cxOf CX0 P w K mg base N qual (defScope st) f cdv A outer s H E).nox e te ∧
        t { nx := fun σ' H' => te σ' H' fun v H'' => (∀ y c, (cellsFrom (s.heap.objs.size + 1) (defScope st).names []).lookup y = some c → H'' c = none) → InjC (cellsFrom (s.heap.objs.size + 1) (defScope st).names []) → Q v (expH (cellsFrom (s.heap.objs.size + 1) (defScope st).names []) (valS N σ') H''), rt := Q } (L2.start N vs) H) :
    FnOk P w K mg base CX0 (k + 1) f (PySem.W.fnOf x qual (defArgs st) (defBody st) (defScope st) .none kV doc pm an cdv ct) ps sp := by
  refine ⟨len, fun A outer s H args us vs Q E hr e0 hb r hsp => ?_⟩
  have hl := len _ _ _ _ hsp
  have KX : K.In s.heap := e0.mod.kin.keeps fun b o e => (e0.bs b o e).1
  have lim : s.heap.NoLimit := e0.mod.nolimit.keeps fun b o e => (e0.bs b o e).1
  have hkind : ∀ y ∈ ps.zip us, (defScope st).names.lookup y.1 = some .local ∨ ((defScope st).names.lookup y.1 = some .cell ∧ ((cellsFrom (s.heap.objs.size + 1) (defScope st).names []).lookup y.1).isSome = true) := fun ⟨n, v⟩ hy => by
    rcases S.par n (List.of_mem_zip hy).1 with q | q
    · exact .inl q
    · exact .inr ⟨q, PySem.W.cellsFrom_some _ _ _ (.inl q)⟩
  refine codeAny_call_function hr.depth (KX _ _ lk) rfl S.co S.gen rfl (PySem.W.codeRec_of KX hcd) (hb _ _ _ _ ?_)
  refine wpAny_newFunctionEnv_cells S.kind hkind fun env he s1 x1 => ?_
  subst he
  refine ⟨lim.keeps x1.toInCall.keep, codeAny_func ?_⟩
  obtain ⟨t, te, ht, hte, hq⟩ := hbody A outer s H vs Q E (hr.deeper _) hsp
  have I : Inv (cxOf CX0 P w K mg base N qual (defScope st) f cdv A outer s H E) [] (L2.start N vs) H s1 := inv_start S hr.hd e0 hl r x1
  have kcell : ∀ y c, (cellsFrom (s.heap.objs.size + 1) (defScope st).names []).lookup y = some c → (defScope st).names.lookup y = some .cell := fun y c e => by
    rcases cellsFrom_kind e with m | z
    · have := List.all_eq_true.mp kc _ m
      simpa using this
    · cases z
  have fin : ∀ {σ' : L2.St} {H' : Hp} {v : V} {u : Value} {s' : Shared}, Inv (cxOf CX0 P w K mg base N qual (defScope st) f cdv A outer s H E) [] σ' H' s' → L2.RelV v u → Q v H' → CE outer P w H s Q u s' :=
    fun {σ' H' v u s'} J rv q => ⟨v, H', J.os, J.bare, J.base, J.hok, rv, q⟩
  rw [eb]
  refine wpAny_execs_cons (wpAny_mono (ht.run [] s1 (L2.start N vs) H _ (I.wish _) hq) (fun fl s2 hs => ?_) fun _ _ z => False.elim z)
  cases fl with
  | ret u =>
    obtain ⟨v, σ', H', J, rv, q⟩ := hs
    exact fin J.unwish rv q
  | brk =>
    obtain ⟨_, _, _, q⟩ := hs
    exact False.elim q
  | cont =>
    obtain ⟨_, _, _, q⟩ := hs
    exact False.elim q
  | next =>
    obtain ⟨σ', H', J, q⟩ := hs
    refine wpAny_execs_cons (wpAny_Return_some (wpAny_mono (hte.run [] s2 σ' H' _ J q) (fun u s3 hz => ?_) fun _ _ z => False.elim z))
    obtain ⟨v, H3, J3', rv, q3⟩ := hz
    have J3 := J3'.unwish
    have frc : ∀ y c, (cellsFrom (s.heap.objs.size + 1) (defScope st).names []).lookup y = some c → H3 c = none := fun y c e => J3.freeC y c e
    have inj : InjC (cellsFrom (s.heap.objs.size + 1) (defScope st).names []) := J3.ok.inj
    have new : ∀ y c, (cellsFrom (s.heap.objs.size + 1) (defScope st).names []).lookup y = some c → s.heap.objs.size ≤ c := fun y c e => J3.ok.cab y c rfl e
    refine ⟨v, expH (cellsFrom (s.heap.objs.size + 1) (defScope st).names []) (valS N σ') H3, J3.os, J3.bare, ⟨J3.base.keep, J3.base.slot, fun b o e n hx => ?_, J3.base.there, fun b xs e => expH_keep frc (J3.base.tups b xs e), fun b o u e => expH_keep frc (J3.base.frzs b o u e), fun b ps e => ?_⟩,
      exp_hok J3.hok inj frc fun y c v' e ev => ?_, rv, q3 frc inj⟩
    · rw [expH_other fun y e' => Nat.lt_irrefl _ (Nat.lt_of_lt_of_le (Heap.lt_size e) (new y b e'))]
      exact J3.base.free b o e n hx
    · obtain ⟨more, z⟩ := J3.base.tbls b ps e
      exact ⟨more, expH_keep frc z⟩
    · obtain ⟨i, e1, e2⟩ := valS_at ev
      obtain ⟨m, _, hlk⟩ := J3.loc
      have hk := kcell y c e
      obtain ⟨u', r', l'⟩ := hlk i y v' e1 e2 (.inr (.inl hk))
      rcases l' with ⟨z, _⟩ | ⟨_, c', ec, hcell⟩
      · have z' : (defScope st).names.lookup y = some .local := z
        rw [hk] at z'
        cases z'
      · have ec' : (cellsFrom (s.heap.objs.size + 1) (defScope st).names []).lookup y = some c' := ec
        rw [e] at ec'
        cases ec'
        exact ⟨u', r', hcell⟩
end
end Cm

set_option linter.all false
/-! a tuple times 0, 1, 2, .. -/
namespace L2
open PySem PySem.Spec PyProof.Rows
theorem tuple_mul1 (l : Addr) (items : Array Value) (n : Nat) (dd : Option Addr) (sl : Array (Option Value)) (u : Tok) :
    Meets (Builtin.«tuple.__mul__» ⟨[.ref l, .int 1 u], []⟩) (fun _ R s => s.heap.get? l = some { cls := .type "tuple", dict := dd, data := .seq items n, slots := sl } ∧ R (.ok (.ret (Value.ref l))) s) :=
  .of_wp fun prog w A R s h => by
    obtain ⟨hp, g, d, tk, os⟩ := s
    obtain ⟨hl, h⟩ := h
    have f1 := AutoSeq1.idx_int
    wp_walk using wpAny_loadPart' hl
    exact ⟨_, rfl, h⟩
theorem tuple_mul0 (l : Addr) (items : Array Value) (n : Nat) (dd : Option Addr) (sl : Array (Option Value)) (u : Tok) (hne : items.isEmpty = false) :
    Meets (Builtin.«tuple.__mul__» ⟨[.ref l, .int 0 u], []⟩) (fun _ R s => s.heap.get? l = some { cls := .type "tuple", dict := dd, data := .seq items n, slots := sl } ∧
      R (.ok (.ret (Value.ref s.heap.objs.size))) { s with heap := s.heap.push { cls := Value.type "tuple", data := Data.seq #[] }, toks := s.toks }) :=
  .of_wp fun prog w A R s h => by
    obtain ⟨hp, g, d, tk, os⟩ := s
    obtain ⟨hl, h⟩ := h
    have f1 := AutoSeq1.idx_int
    have c1 : (items.isEmpty || (0 : Int) == 1) = false := by rw [hne]; rfl
    wp_walk using wpAny_loadPart' hl
    repeat (first
      | (refine wpAny_ite_false (decide_eq_false (by rw [c1]; exact Bool.false_ne_true)) ?_; wp_walk using wpAny_loadPart' hl)
      | (refine wpAny_ite_true (decide_eq_true (by simp)) ?_; wp_walk using wpAny_loadPart' hl))
    exact ⟨_, rfl, h⟩
def rRepA (K : PySem.W.Frag) : R2 := fun x y H Q => ∃ (l : Addr) (k : Nat) (xs : List V), x = .ref l ∧ y = .int (k : Nat) ∧ SqT K H l xs ∧ xs ≠ [] ∧ k ≤ 1000 ∧ xs.length ≤ 1000 ∧
  ∀ t H', Same H H' → SqT K H' t (List.replicate k xs).flatten → Q (.ref t) H'
theorem op_repA {X : Cx} : OpR X (binaryOp .Mult) (rRepA X.K) := by
  intro pins s σ H x y v u Q I rx ry h
  obtain ⟨l, k, xs, rfl, rfl, hT, hne, h2, hz, q⟩ := h
  by_cases hk : 2 ≤ k
  · refine op_repT pins s σ H _ _ v u Q I rx ry ⟨l, (k : Int), xs, rfl, rfl, hT, hne, by omega, by omega, hz, fun p hp => ?_⟩
    rw [Int.toNat_natCast]
    exact q p _ (Cm.same_new hp) (.inl (.inl upd_same))
  cases rx
  obtain ⟨t, rfl⟩ := ry
  obtain ⟨its, r, ⟨⟨cls, dd, data, sl⟩, ho, hc, n, hd⟩, hs⟩ := I.tuple hT
  simp only at hc hd
  subst hc hd
  have hi : its.toArray.isEmpty = false := by
    cases its with
    | nil =>
      have := r.length
      exact absurd (List.eq_nil_of_length_eq_zero this) hne
    | cons a b => rfl
  by_cases h1 : k = 1
  · subst h1
    refine wpAny_binaryOp_repeat_ref (T := "tuple") (U := "int") (by decide) ⟨_, ho, rfl⟩ (fun s' => typeIs_int s' 1 t) noFill_tuple_mul F.fills_int_mul F.slot_int_rmul repeat_tuple F.slot_int_index.lookup
      (call_meets F.slot_int_rmul (typeIs_int s 1 t) F.entry_int_rmul (F.args_int_rmul_2 _ _) (int_rmul_tuple 1 t l its.toArray n dd sl)
        ⟨ho, rfl, ⟨_, ho, rfl⟩, call_meets F.slot_tuple_mul ⟨_, ho, rfl⟩ F.entry_tuple_mul (F.args_tuple_mul_2 _ _) (tuple_mul1 l its.toArray n dd sl t) ⟨ho, ?_⟩⟩)
    refine ⟨.ref l, H, I, rfl, q l H (Same.refl H) ?_⟩
    have e : (List.replicate 1 xs).flatten = xs := by simp
    rw [e]
    exact hT
  · have h0 : k = 0 := by omega
    subst h0
    refine wpAny_binaryOp_repeat_ref (T := "tuple") (U := "int") (by decide) ⟨_, ho, rfl⟩ (fun s' => typeIs_int s' 0 t) noFill_tuple_mul F.fills_int_mul F.slot_int_rmul repeat_tuple F.slot_int_index.lookup
      (call_meets F.slot_int_rmul (typeIs_int s 0 t) F.entry_int_rmul (F.args_int_rmul_2 _ _) (int_rmul_tuple 0 t l its.toArray n dd sl)
        ⟨ho, rfl, ⟨_, ho, rfl⟩, call_meets F.slot_tuple_mul ⟨_, ho, rfl⟩ F.entry_tuple_mul (F.args_tuple_mul_2 _ _) (tuple_mul0 l its.toArray n dd sl t hi) ⟨ho, ?_⟩⟩)
    have hn := I.hok.fresh (Nat.le_refl s.heap.objs.size)
    refine ⟨.ref s.heap.objs.size, _, I.laid (t' := s.toks) (o := .tup []) (fun b ob q => Heap.get?_push_of_some _ q) (Nat.le_refl _) ?_, rfl, q _ _ (Cm.same_new hn) (.inl (.inl upd_same))⟩
    exact ⟨by show 0 ≤ sizeLine; rw [sizeLine_eq]; omega, [], .nil, IsTup.new _ _⟩
end L2

set_option linter.all false
/-! sorted of texts and of a dict with text keys, of any length; rows of texts in order -/
namespace Cm
open PySem L2 PySem.Spec PyProof.Rows
section
variable {X : Cx}
def rSortedSA (K : PySem.W.Frag) : List V → Hp → VK → Prop := fun vs H Q => ∃ (a : Addr) (xs : List Str), vs = [V.ref a] ∧ SqL K H a (xs.map V.str) ∧
  ∀ (ys : List Str) (p : Addr), ys.Perm xs → sortedS ys = true → H p = Option.none → Q (.ref p) (upd H p (.lst (ys.map V.str)))
theorem cr_sortedSA : CallR X (.builtin "sorted") (rSortedSA X.K) := by
  intro pins s σ H vs us Q I r h
  obtain ⟨a, xs, rfl, hs, q⟩ := h
  obtain ⟨its, rv, hl, hz⟩ := I.list hs
  rw [Vals.ref1 r]
  have hlen0 := rv.length
  rw [List.length_map] at hlen0 hz
  refine PyProof.Rows.sorted_strsAny hl.isList rv.strs (by rw [← hlen0]; exact hz) fun out ys h1 h2 h3 => ?_
  obtain ⟨ep, he'⟩ := PyProof.Rows.sortedAll_at s.heap its out
  have hlen : (ys.map V.str).length ≤ sizeLine := by rw [List.length_map, h2.length_eq]; exact hz
  exact ⟨.ref _, upd H (s.heap.objs.size + 1) (.lst (ys.map V.str)), I.laid (t' := s.toks) (fun _ _ => PyProof.Rows.sortedAll_old) (Nat.le_succ _) ⟨hlen, out.toList, ep, vals_of_strs h1, he'⟩, rfl, q ys _ h2 h3 (I.hok.fresh (Nat.le_succ _))⟩
def rSortedDA : List V → Hp → VK → Prop := fun xs H Q => ∃ (a : Addr) (kvs : List (Key × V)) (ks : List Str), xs = [.ref a] ∧ Rd H a (.dK kvs) ∧ kvs.map (·.1) = ks.map Sum.inr ∧ ks.length ≤ 16000000 ∧
    ∀ ys p, ys.Perm ks → sortedS ys = true → H p = Option.none → Q (.ref p) (upd H p (.lst (ys.map V.str)))
theorem call_sortedDA (hcalm : X.calm = true) : CallR X (.builtin "sorted") rSortedDA := by
  intro pins s σ H xs us Q I r q
  obtain ⟨a, kvs, ks, ex, hd, hks, h64, q⟩ := q
  subst ex
  obtain ⟨u, eu, rx⟩ := vals1 r
  subst eu
  cases rx
  obtain ⟨z, lo, vs, rel, dd⟩ := dk_rd I.hok hd
  obtain ⟨ep, hat⟩ := dd.dictAt
  have hkeys : vs.map (·.1) = ks.map Sum.inr := rel.keys.symm.trans hks
  have hl : vs.length = ks.length := by
    have e := congrArg List.length hkeys
    rw [List.length_map, List.length_map] at e
    exact e
  have h16 : vs.length ≤ sizeLine := by rw [hl, sizeLine_eq]; omega
  refine Calls.call_function_entry PyProof.Rows.kind_sorted PyProof.Rows.plain_sorted PyProof.Rows.entry_sorted (PyProof.Rows.args_sorted1 _) ?_
  unfold Builtin.«sorted»
  refine wpAny_bind (m := checkCount "sorted" 1 1 _) (wpAny_pure ?_)
  refine wpAny_bind (PySem.W.kdu_collect (A := X.A.in1) (PySem.W.kdl_dict (knd := mixKind X.prog X.w) (kvs := vs) (ep := ep) lo) (I.ok.hd hcalm) hat h16 fun h' tk acc hk hacc => ?_)
  have hal : acc.toList.length = ks.length := by rw [Array.length_toList, hacc.1, hl]
  have hS : StrsAre acc.toList ks := strs_at hal fun j v e => by
    obtain ⟨k, x, e1, e2⟩ := hacc.2 j v (by rw [← Array.getElem?_toList]; exact e)
    have e3 : (vs.map (·.1))[j]? = some k := by rw [List.getElem?_map, e1]; all_goals rfl
    rw [hkeys, List.getElem?_map] at e3
    cases e4 : ks[j]? with
    | none => rw [e4] at e3; cases e3
    | some y =>
      rw [e4] at e3
      have e5 : Sum.inr y = k := Option.some.inj e3
      subst e5
      obtain ⟨t, ev⟩ := Value.isStrOf_shape (x := y) (v := v) e2
      exact ⟨y, t, rfl, ev⟩
  have I1 : Inv X pins σ H { s with heap := h', toks := tk } := I.kept hk
  refine wpAny_bind (wpAny_newList ?_ (by rw [hal, sizeLine_eq]; omega))
  have hoL : (h'.push (seqObj "list" acc.toList.toArray 0)).get? h'.objs.size = some (seqObj "list" acc.toList.toArray 0) := Heap.get?_push_size _ rfl
  show wpAny _ _ _ _ _ { s with heap := h'.push (seqObj "list" acc.toList.toArray 0), toks := tk }
  refine wpAny_bind (wpAny_holding (wpAny_call_entry PyProof.Rows.slot_list_sort ⟨_, hoL, rfl⟩ PyProof.Rows.entry_list_sort
    (list_sort_treeKAny strKind_oneLt (s := { s with heap := h'.push (seqObj "list" acc.toList.toArray 0), toks := tk }) hoL hS.keysOf (fun v₁ v₂ rest e => keyKind_strs (by rw [← e]; exact hS)) (by rw [hal, sizeLine_eq]; omega) fun st' hp hs => ⟨_, rfl, ?_⟩)
    (PyProof.Rows.args_list_sort _)))
  obtain ⟨ys, g1, g2, g3⟩ := sorted_out_str hS hp hs
  obtain ⟨e', he'⟩ := PyProof.Rows.sortedHeap_at (vs := acc.toList) (out := (arrOf st').map (·.2)) hoL
  have hlen : (ys.map V.str).length ≤ sizeLine := by
    rw [List.length_map, g2.length_eq, sizeLine_eq]
    omega
  refine wpAny_pure ⟨_, rfl, .ref h'.objs.size, upd H h'.objs.size (.lst (ys.map V.str)), I1.laid (t' := tk) (fun b u e => ?_) (Nat.le_refl _)
    (show ObjOk X.prog X.w _ _ _ (.lst (ys.map V.str)) from ⟨hlen, ((arrOf st').map (·.2)).toList, e', vals_of_strs g1, by rw [Array.toArray_toList]; exact he'⟩), rfl, q ys _ g2 g3 (I1.hok.fresh (Nat.le_refl _))⟩
  have hb : b < h'.objs.size := Heap.lt_size e
  rw [PyProof.Rows.sortedHeap_old (Nat.ne_of_lt hb) (by rw [size_push']; exact Nat.lt_succ_of_lt hb)]
  exact Heap.get?_push_of_some _ e
end
/-! ### rows of texts in order -/
def leS (a b : Str) : Prop := ¬ b.cps.toList < a.cps.toList
theorem leS.tr {a b c : Str} (h : leS a b) (k : leS b c) : leS a c := fun z =>
  absurd z (List.not_lt.mpr (List.le_trans (show a.cps.toList ≤ b.cps.toList from h) (show b.cps.toList ≤ c.cps.toList from k)))
theorem leS.eq {a b : Str} (h : leS a b) (k : leS b a) : a = b := by
  have e : a.cps.toList = b.cps.toList := List.le_antisymm (show a.cps.toList ≤ b.cps.toList from h) (show b.cps.toList ≤ a.cps.toList from k)
  cases a with
  | mk x => cases b with
    | mk y =>
      have e' : x = y := Array.toList_inj.mp e
      rw [e']
theorem leS.refl (a : Str) : leS a a := List.lt_irrefl _
theorem rising_le : ∀ (l : List Str) (p : Str), risingS p l = true → (p :: l).Pairwise leS
  | [], p, _ => List.pairwise_singleton _ _
  | x :: r, p, h => by
    have h' : (!ltCps x.cps.toList p.cps.toList && risingS x r) = true := h
    rw [Bool.and_eq_true] at h'
    have ih := rising_le r x h'.2
    have le : leS p x := fun z => by
      have := h'.1
      rw [ltCps_eq, decide_eq_true z] at this
      cases this
    refine List.pairwise_cons.mpr ⟨fun y hy => ?_, ih⟩
    rcases List.mem_cons.mp hy with rfl | hy
    · exact le
    · exact le.tr ((List.pairwise_cons.mp ih).1 y hy)
theorem sorted_le : ∀ {l : List Str}, sortedS l = true → l.Pairwise leS
  | [], _ => .nil
  | x :: r, h => rising_le r x h
/-- ascending, without doubles -/
structure Asc (l : List Str) : Prop where
  le : l.Pairwise leS
  nd : l.Nodup
theorem Asc.uniq : ∀ {l m : List Str}, Asc l → Asc m → (∀ x, x ∈ l ↔ x ∈ m) → l = m := fun {l m} hl hm h => by
  have p : l.Perm m := (List.perm_ext_iff_of_nodup hl.nd hm.nd).mpr h
  exact List.Perm.eq_of_pairwise (fun a b _ _ h k => leS.eq h k) hl.le hm.le p
theorem asc_of {l ys : List Str} (h : ys.Perm l) (s : sortedS ys = true) (n : l.Nodup) : Asc ys ∧ ∀ x, x ∈ ys ↔ x ∈ l :=
  ⟨⟨sorted_le s, h.nodup_iff.mpr n⟩, fun x => h.mem_iff⟩
/-- one more text, not less than those that stand -/
theorem Asc.snoc {l : List Str} {x : Str} (h : Asc l) (k : ∀ y ∈ l, leS y x) (n : l.getLast? ≠ some x) : Asc (l ++ [x]) := by
  have no : x ∉ l := fun m => by
    cases e : l.getLast? with
    | none => rw [List.getLast?_eq_none_iff] at e; rw [e] at m; cases m
    | some z =>
      obtain ⟨r, rfl⟩ := List.getLast?_eq_some_iff.mp e
      have hz : leS z x := k z (List.mem_append_right _ List.mem_cons_self)
      rcases List.mem_append.mp m with m | m
      · have hx : leS x z := (List.pairwise_append.mp h.le).2.2 x m z List.mem_cons_self
        exact n (by rw [e, hz.eq hx])
      · exact n (by rw [e, List.mem_singleton.mp m])
  refine ⟨List.pairwise_append.mpr ⟨h.le, List.pairwise_singleton _ _, fun a ha b hb => ?_⟩, List.nodup_append.mpr ⟨h.nd, List.nodup_cons.mpr ⟨List.not_mem_nil, List.nodup_nil⟩, fun a ha b hb e => ?_⟩⟩
  · rw [List.mem_singleton.mp hb]
    exact k a ha
  · rw [List.mem_singleton.mp hb] at e
    exact no (e ▸ ha)
/-! ### keys of a dict that are texts -/
theorem putK_keys {kvs : List (Key × V)} {ns : List Str} (h : kvs.map (·.1) = ns.map Sum.inr) (x : Str) (v : V) : (putK kvs (Sum.inr x) v).map (·.1) = (if x ∈ ns then ns else ns ++ [x]).map Sum.inr := by
  have a : (kvs.any fun kv => decide (kv.1 = Sum.inr x)) = decide (x ∈ ns) := by
    have e : (kvs.any fun kv => decide (kv.1 = Sum.inr x)) = (kvs.map (·.1)).any fun k => decide (k = Sum.inr x) := by rw [List.any_map]; rfl
    rw [e, h, List.any_map]
    clear h e
    induction ns with
    | nil => rfl
    | cons n ns ih =>
      rw [List.any_cons, ih]
      by_cases q : n = x
      · subst q
        simp
      · have : ¬ x = n := fun z => q z.symm
        simp [q, this]
  unfold putK
  rw [a]
  by_cases q : x ∈ ns
  · rw [if_pos (decide_eq_true q), if_pos q, List.map_map, ← h]
    refine List.map_congr_left fun kv _ => ?_
    show (if kv.1 = Sum.inr x then (kv.1, v) else kv).1 = kv.1
    split <;> rfl
  · rw [if_neg (by rw [decide_eq_false q]; exact Bool.false_ne_true), if_neg q, List.map_append, List.map_append, h]
    rfl
/-- what is kept but the dict d -/
structure Kd (d : Addr) (H H' : Hp) : Prop where
  st : ∀ a o, a ≠ d → H a = some o → H' a = some o
  d1 : ∃ kvs, H d = some (.dK kvs)
  d2 : ∃ kvs, H' d = some (.dK kvs)
theorem Kd.trans {d : Addr} {H H1 H2 : Hp} (a : Kd d H H1) (b : Kd d H1 H2) : Kd d H H2 := ⟨fun x o n e => b.st x o n (a.st x o n e), a.d1, b.d2⟩
theorem Kd.of_same {d : Addr} {H H' : Hp} {kvs : List (Key × V)} (h : H d = some (.dK kvs)) (s : Same H H') : Kd d H H' := ⟨fun x o _ e => s x o e, ⟨_, h⟩, ⟨_, s _ _ h⟩⟩
theorem Kd.put {d : Addr} {H : Hp} {kvs kvs' : List (Key × V)} (h : H d = some (.dK kvs)) : Kd d H (upd H d (.dK kvs')) := ⟨fun x o n e => by rw [upd_ne n]; exact e, ⟨_, h⟩, ⟨_, upd_same⟩⟩
theorem Kd.tup {d : Addr} {K : PySem.W.Frag} {H H' : Hp} {a : Addr} {xs : List V} (k : Kd d H H') (h : SqT K H a xs) : SqT K H' a xs := by
  have no : ∀ o, H a = some o → (∀ ys, o ≠ .dK ys) → a ≠ d := fun o e n m => by
    obtain ⟨ys, e2⟩ := k.d1
    rw [m, e2] at e
    exact n ys (Option.some.inj e).symm
  rcases h with (h | ⟨o, h⟩) | h
  · exact .inl (.inl (k.st _ _ (no _ h fun _ z => nomatch z) h))
  · exact .inl (.inr ⟨o, k.st _ _ (no _ h fun _ z => nomatch z) h⟩)
  · exact .inr h
theorem Kd.dp {d : Addr} {K : PySem.W.Frag} {H H' : Hp} (k : Kd d H H') {v : V} {x : PyData} (f : flatD x = true) (h : Dp K H v x) : Dp K H' v x := dp_keep (fun _ _ q => k.tup q) _ _ f h
theorem Kd.dps {d : Addr} {K : PySem.W.Frag} {H H' : Hp} (k : Kd d H H') {vs : List V} {ds : List PyData} (f : flatDs ds = true) (h : DpAll K H vs ds) : DpAll K H' vs ds := dps_keep (fun _ _ q => k.tup q) _ _ f h
/-- a comprehension over data, of any size -/
theorem lc_dataW {K : PySem.W.Frag} {J : It} {n : Nat} {G : Hp → Prop} {Y : Nat → Hp → V → Hp → Prop} (wk : Walk J n G Y) {g : TG} {tt : TT} {te : TE} {vs : List Nat} {σ : L2.St} {H1 : Hp} {D : Addr} {Qd : Hp → Prop} (R : Nat → Option PyData)
    (hD : H1 D = Option.none) (hn : n ≤ 16000000) (hG : ∀ H, Same H1 H → G H) (hfl : ∀ i < n, ∀ d, R i = some d → flatD d = true)
    (hs : ∀ i x H H', i < n → Same H1 H → Y i H x H' → ∀ (Q1 : VK) (Q0 : Hp → Prop), (∀ v H4 d, R i = some d → Same H H4 → Dp K H4 v d → Q1 v H4) → (∀ H3, R i = none → Same H H3 → Q0 H3) →
      g x (wipe σ vs) H' fun σ2 H2 => wipe σ2 vs = wipe σ vs ∧ tt σ2 H2 fun b H3 => if b = true then te σ2 H3 Q1 else Q0 H3)
    (hd : ∀ H acc, Same H1 H → H D = some (.lst acc) → DpAll K H acc ((List.range n).filterMap R) → Qd H) :
    ∃ W : Nat → Nat → Hp → Prop, (∃ m, W 0 m (upd H1 D (.lst []))) ∧ ∀ i m H, W i m H →
      (J.stop i H ∧ Qd H) ∨ (J.go i H ∧ ∃ Nx : Hp → Prop, (∀ H', Nx H' → ∃ m', m' < m ∧ W (i + 1) m' H') ∧ ∀ x H', J.yld i H x H' → g x (wipe σ vs) H' fun σ2 H2 => wipe σ2 vs = wipe σ vs ∧ tt σ2 H2 fun b H3 =>
        if b = true then te σ2 H3 fun y H4 => ∃ acc, H4 D = some (.lst acc) ∧ acc.length < sizeLine ∧ Nx (upd H4 D (.lst (acc ++ [y]))) else Nx H3) := by
  have fl : ∀ i ≤ n, flatDs ((List.range i).filterMap R) = true := fun i hi => flatDs_of _ fun d hd => by
    obtain ⟨j, hj, e⟩ := List.mem_filterMap.mp hd
    exact hfl j (by have := List.mem_range.mp hj; omega) d e
  refine lc_it wk (fun i H => ∃ acc, Same H1 H ∧ H D = some (.lst acc) ∧ DpAll K H acc ((List.range i).filterMap R) ∧ acc.length ≤ i) ⟨[], same_new hD, upd_same, .nil, Nat.le_refl _⟩ (fun i H _ z => ?_) ?_ ?_
  · obtain ⟨acc, s, _⟩ := z
    exact hG H s
  · rintro i x H H' hi ⟨acc, s, hacc, ha, hl⟩ y
    refine hs i x H H' hi s y _ _ (fun v H4 d e s4 hv => ?_) (fun H3 e s3 => ?_)
    · have hD4 := s4 _ _ hacc
      refine ⟨acc, hD4, (by rw [sizeLine_eq]; omega), acc ++ [v], same_put (s.trans s4) hD, upd_same, ?_, by rw [List.length_append]; exact Nat.succ_le_succ hl⟩
      rw [List.range_succ, List.filterMap_append]
      have e1 : ([i].filterMap R) = [d] := by simp [e]
      rw [e1]
      exact DpAll.snoc (dp_keep (fun _ _ q => sqt_put hD4 q) _ _ (hfl i hi d e) hv) (dps_keep (fun _ _ q => sqt_put hD4 q) _ _ (fl i (by omega)) (dps_same s4 _ _ ha))
    · refine ⟨acc, s.trans s3, s3 _ _ hacc, ?_, by omega⟩
      rw [List.range_succ, List.filterMap_append]
      have e1 : ([i].filterMap R) = [] := by simp [e]
      rw [e1, List.append_nil]
      exact dps_same s3 _ _ ha
  · rintro H ⟨acc, s, hacc, ha, _⟩
    exact hd H acc s hacc ha
end Cm

/-! a comprehension that draws, with a word on what was made so far -/
namespace Cm
open PySem L2 PySem.Spec PyProof.Rows
theorem lc_drawJ {K : PySem.W.Frag} {M : Addr → Prop} {I : It} {n : Nat} {G : Hp → Prop} {Y : Nat → Hp → V → Hp → Prop} (wk : Walk I n G Y) {g : TG} {tt : TT} {te : TE} {vs : List Nat} {σ : L2.St} {H1 : Hp} {D : Addr} {Qd : Hp → Prop}
    (J : Nat → List PyData → Hp → Prop) (hM : ∀ a, M a → ∃ xs, H1 a = some (.lst xs)) (h0 : J 0 [] (upd H1 D (.lst []))) (hJ : ∀ i ds H ys, Kp M H1 H → J i ds H → J i ds (upd H D (.lst ys)))
    (hD : H1 D = Option.none) (hn : n ≤ 100000) (hG : ∀ i ds H, Kp M H1 H → J i ds H → G H) (hfl : ∀ i ds H, J i ds H → flatDs ds = true)
    (hs : ∀ i x ds H H', i < n → Kp M H1 H → J i ds H → Y i H x H' → ∀ (Q1 : VK) (Q0 : Hp → Prop), (∀ v H4 d, Kp M H H4 → J (i + 1) (ds ++ [d]) H4 → Dp K H4 v d → Q1 v H4) → (∀ H3, Kp M H H3 → J (i + 1) ds H3 → Q0 H3) →
      g x (wipe σ vs) H' fun σ2 H2 => wipe σ2 vs = wipe σ vs ∧ tt σ2 H2 fun b H3 => if b = true then te σ2 H3 Q1 else Q0 H3)
    (hd : ∀ H acc ds, Kp M H1 H → J n ds H → H D = some (.lst acc) → DpAll K H acc ds → Qd H) :
    ∃ W : Nat → Nat → Hp → Prop, (∃ m, W 0 m (upd H1 D (.lst []))) ∧ ∀ i m H, W i m H →
      (I.stop i H ∧ Qd H) ∨ (I.go i H ∧ ∃ Nx : Hp → Prop, (∀ H', Nx H' → ∃ m', m' < m ∧ W (i + 1) m' H') ∧ ∀ x H', I.yld i H x H' → g x (wipe σ vs) H' fun σ2 H2 => wipe σ2 vs = wipe σ vs ∧ tt σ2 H2 fun b H3 =>
        if b = true then te σ2 H3 fun y H4 => ∃ acc, H4 D = some (.lst acc) ∧ acc.length < sizeLine ∧ Nx (upd H4 D (.lst (acc ++ [y]))) else Nx H3) := by
  have nM : ¬ M D := fun m => by
    obtain ⟨xs, e⟩ := hM D m
    rw [hD] at e
    cases e
  refine lc_it wk (fun i H => ∃ acc ds, Kp M H1 H ∧ J i ds H ∧ H D = some (.lst acc) ∧ DpAll K H acc ds ∧ acc.length ≤ i) ⟨[], [], Kp.new hM hD, h0, upd_same, .nil, Nat.le_refl _⟩ (fun i H _ z => ?_) ?_ ?_
  · obtain ⟨acc, ds, s, j, _⟩ := z
    exact hG i ds H s j
  · rintro i x H H' hi ⟨acc, ds, s, j, hacc, ha, hl⟩ y
    refine hs i x ds H H' hi s j y _ _ (fun v H4 d s4 j4 hv => ?_) (fun H3 s3 j3 => ?_)
    · have hD4 := s4.st _ _ nM hacc
      have f4 := hfl _ _ _ j4
      have f1 : flatDs ds = true := hfl _ _ _ j
      have f2 : flatD d = true := flatDs_all f4 d (List.mem_append_right _ (List.mem_singleton.mpr rfl))
      refine ⟨acc, hD4, Nat.lt_of_le_of_lt hl (Nat.lt_of_lt_of_le (show i < 100000 by omega) (by decide)), acc ++ [v], ds ++ [d], (s.trans s4).mut hD, hJ _ _ _ _ (s.trans s4) j4, upd_same, ?_, by rw [List.length_append]; exact Nat.succ_le_succ hl⟩
      exact DpAll.snoc (dp_keep (fun _ _ q => sqt_put hD4 q) _ _ f2 hv) (dps_keep (fun _ _ q => sqt_put hD4 q) _ _ f1 (dps_keep (fun _ _ q => s4.tup q) _ _ f1 ha))
    · exact ⟨acc, ds, s.trans s3, j3, s3.st _ _ nM hacc, dps_keep (fun _ _ q => s3.tup q) _ _ (hfl _ _ _ j) ha, by omega⟩
  · rintro H ⟨acc, ds, s, j, hacc, ha, _⟩
    exact hd H acc ds s j hacc ha
/-- a built-in method with arguments, where K is said -/
theorem ke_bm {X : Cx} {K : PySem.W.Frag} {T : String} {name : Str} {id : String} {r : V → List V → Hp → VK → Prop} {o e : Expr} {es : List Expr} {to : TE} {t : TA} {apos cpos : Pos} (pa : PlainAttrs T) (slot : Slot T name id)
    (hty : typeOf (.builtin id) = pure (.type "method_descriptor")) (hm : MtR X id r) (ho : PE X o to) (ha : PA X (e :: es) t) (hK : X.K = K := by rfl) (b1 : attributeBase o name X.env (eval o X.env) = eval o X.env := by rfl)
    (b2 : ((backTo cpos (starEach (e :: es) X.env)).all (fun x => !x.1) && (backToKw cpos (keywordEach [] X.env)).all (fun x => x.1.isSome) && decide ((e :: es).length + ([] : List Keyword).length + (if ([] : List Keyword).isEmpty then 0 else 1) < 30)) = true := by rfl)
    (b3 : (apos.endLine == cpos.line) = true := by rfl) (b4 : starEach (e :: es) X.env = (false, eval e X.env) :: starEach es X.env := by rfl) (b5 : (backTo cpos (starEach es X.env)).any (·.1) = false := by rfl) :
    PE X (.Call (.Attribute o name apos) (e :: es) [] cpos) (tBM K T r to t) := by
  subst hK
  exact pe_bm pa slot hty hm ho ha b1 b2 b3 b4 b5
end Cm

/-! trees that are drawn: the hand and the room -/
namespace Cm
open PySem L2 PySem.Spec PyProof.Rows
/-- the hand at h, the room k at r -/
structure Gn (H : Hp) (h c r : Addr) (k : Nat) : Prop where
  hand : Hand H h c
  rm : H r = some (.lst [.int (k : Nat)])
  rh : r ≠ h
  rc : r ≠ c
abbrev Kr (h r : Addr) : Hp → Hp → Prop := Kp (fun a => a = h ∨ a = r)
theorem Gn.lists {H : Hp} {h c r : Addr} {k : Nat} (x : Gn H h c r k) : ∀ a, (a = h ∨ a = r) → ∃ xs, H a = some (.lst xs) := fun a m => by
  rcases m with rfl | rfl
  · exact x.hand.lst
  · exact ⟨_, x.rm⟩
theorem Gn.refl {H : Hp} {h c r : Addr} {k : Nat} (x : Gn H h c r k) : Kr h r H H := Kp.refl x.lists
theorem Gn.same {H H' : Hp} {h c r : Addr} {k : Nat} (x : Gn H h c r k) (s : Same H H') : Gn H' h c r k ∧ Kr h r H H' := ⟨⟨x.hand.same s, s _ _ x.rm, x.rh, x.rc⟩, .of_same x.lists s⟩
theorem Gn.draw {H H' : Hp} {h c r : Addr} {k : Nat} (x : Gn H h c r k) (kh : Kh h H H') (hh : Hand H' h c) : Gn H' h c r k ∧ Kr h r H H' :=
  ⟨⟨hh, kh.st _ _ x.rh x.rm, x.rh, x.rc⟩, kh.wider (fun _ m => .inl m) x.lists⟩
theorem Gn.puts {H : Hp} {h c r D : Addr} {o : HO} {k : Nat} (x : Gn H h c r k) (n1 : D ≠ h) (n2 : D ≠ c) (n3 : D ≠ r) : Gn (upd H D o) h c r k :=
  ⟨x.hand.puts n1 n2, by rw [upd_ne n3.symm]; exact x.rm, x.rh, x.rc⟩
/-- the room is one less -/
theorem Gn.less {H : Hp} {h c r : Addr} {k : Nat} (x : Gn H h c r (k + 1)) : Gn (upd H r (.lst [.int (k : Nat)])) h c r k ∧ Kr h r H (upd H r (.lst [.int (k : Nat)])) :=
  ⟨⟨x.hand.puts x.rh x.rc, upd_same, x.rh, x.rc⟩, Kp.put x.lists (.inr rfl)⟩
theorem sizes_snoc (t : Tr) : ∀ ts : List Tr, Tr.sizes (ts ++ [t]) = Tr.sizes ts + t.size
  | [] => by show t.size + 0 = 0 + t.size; omega
  | a :: ts => by
    have := sizes_snoc t ts
    show a.size + Tr.sizes (ts ++ [t]) = a.size + Tr.sizes ts + t.size
    omega
/-- a comprehension of drawn trees: F says how they lie in the list, E how one of them does -/
theorem lc_gen {K : PySem.W.Frag} {h c r : Addr} {k : Nat} {I : It} {n : Nat} {G : Hp → Prop} {Y : Nat → Hp → V → Hp → Prop} (wk : Walk I n G Y) {g : TG} {te : TE} {vs : List Nat} {σ : L2.St} {H1 : Hp} {D : Addr} {Qd : Hp → Prop}
    (F : List Tr → List PyData) (E : Nat → Tr → PyData) (dm cost : Nat) (F0 : F [] = []) (FS : ∀ ts t, ts.length < n → F (ts ++ [t]) = F ts ++ [E ts.length t]) (Fl : ∀ ts, flatDs (F ts) = true)
    (x0 : Gn H1 h c r k) (hD : H1 D = Option.none) (hn : n ≤ 100000) (hG : ∀ H, Kr h r H1 H → G H)
    (hs : ∀ i x k1 H H', i < n → Kr h r H1 H → Gn H h c r k1 → Y i H x H' → ∀ Q1 : VK, (∀ v t k2 H4, Kr h r H H4 → Gn H4 h c r k2 → Dp K H4 v (E i t) → t.ok → t.dep ≤ dm → t.size + 12 * k2 ≤ cost + 12 * k1 → Q1 v H4) →
      g x (wipe σ vs) H' fun σ2 H2 => wipe σ2 vs = wipe σ vs ∧ te σ2 H2 Q1)
    (hd : ∀ H acc ts k1, Kr h r H1 H → Gn H h c r k1 → H D = some (.lst acc) → DpAll K H acc (F ts) → ts.length = n → (∀ t ∈ ts, t.ok ∧ t.dep ≤ dm) → Tr.sizes ts + 12 * k1 ≤ cost * n + 12 * k → Qd H) :
    ∃ W : Nat → Nat → Hp → Prop, (∃ m, W 0 m (upd H1 D (.lst []))) ∧ ∀ i m H, W i m H →
      (I.stop i H ∧ Qd H) ∨ (I.go i H ∧ ∃ Nx : Hp → Prop, (∀ H', Nx H' → ∃ m', m' < m ∧ W (i + 1) m' H') ∧ ∀ x H', I.yld i H x H' → g x (wipe σ vs) H' fun σ2 H2 => wipe σ2 vs = wipe σ vs ∧ tYes σ2 H2 fun b H3 =>
        if b = true then te σ2 H3 fun y H4 => ∃ acc, H4 D = some (.lst acc) ∧ acc.length < sizeLine ∧ Nx (upd H4 D (.lst (acc ++ [y]))) else Nx H3) := by
  have nD := x0.hand.there hD
  have nDr : D ≠ r := (ne_of_none x0.rm hD).symm
  refine lc_drawJ (K := K) (M := fun a => a = h ∨ a = r) wk (fun i ds H => ∃ ts k1, ds = F ts ∧ Gn H h c r k1 ∧ ts.length = i ∧ (∀ t ∈ ts, t.ok ∧ t.dep ≤ dm) ∧ Tr.sizes ts + 12 * k1 ≤ cost * i + 12 * k) x0.lists
    ⟨[], k, F0.symm, (x0.same (same_new hD)).1, rfl, (fun _ m => by cases m), (by show 0 + 12 * k ≤ cost * 0 + 12 * k; omega)⟩ (fun i ds H ys _ j => ?_) hD hn (fun _ _ H kk _ => hG H kk) (fun i ds H j => ?_) ?_ ?_
  · obtain ⟨ts, k1, a1, a2, a3⟩ := j
    exact ⟨ts, k1, a1, a2.puts nD.1 nD.2 nDr, a3⟩
  · obtain ⟨ts, k1, rfl, _⟩ := j
    exact Fl ts
  · rintro i x ds H H' hi kk ⟨ts, k1, rfl, a2, a3, a4, a5⟩ y Q1 Q0 q1 q0
    refine hs i x k1 H H' hi kk a2 y Q1 fun v t k2 H4 k4 x4 hv ok dp sz => ?_
    refine q1 v H4 (E i t) k4 ⟨ts ++ [t], k2, ?_, x4, ?_, ?_, ?_⟩ hv
    · rw [FS ts t (by omega), a3]
    · rw [List.length_append, a3]; rfl
    · intro u hu
      rcases List.mem_append.mp hu with hu | hu
      · exact a4 u hu
      · cases List.mem_singleton.mp hu
        exact ⟨ok, dp⟩
    · rw [sizes_snoc, Nat.mul_succ]
      omega
  · rintro H acc ds kk ⟨ts, k1, rfl, a2, a3, a4, a5⟩ hacc ha
    exact hd H acc ts k1 kk a2 hacc ha a3 a4 a5
theorem encL_snoc (t : Tr) (ts : List Tr) : Tr.encL (ts ++ [t]) = Tr.encL ts ++ [t.enc] := by
  rw [encL_map, encL_map, List.map_append]
  rfl
/-- rows of names and trees -/
def rowsL (xs : List Str) (ts : List Tr) : List PyData := (xs.zip (Tr.encL ts)).map rowD
theorem rowsL_snoc {t : Tr} : ∀ {xs : List Str} {ts : List Tr}, ts.length < xs.length → rowsL xs (ts ++ [t]) = rowsL xs ts ++ [rowD ((xs[ts.length]?).getD "", t.enc)]
  | x :: xs, [], _ => by simp [rowsL, Tr.encL]
  | x :: xs, a :: ts, h => by
    have ih := rowsL_snoc (t := t) (xs := xs) (ts := ts) (by simpa using h)
    show rowD (x, a.enc) :: rowsL xs (ts ++ [t]) = rowD (x, a.enc) :: rowsL xs ts ++ _
    rw [ih]
    rfl
theorem rowsL_flat (xs : List Str) (ts : List Tr) : flatDs (rowsL xs ts) = true := flatDs_of _ fun d hd => by
  obtain ⟨p, hp, rfl⟩ := List.mem_map.mp hd
  have h := (List.of_mem_zip (show (p.1, p.2) ∈ xs.zip (Tr.encL ts) from hp)).2
  have := flatDs_all (flat_encL ts) _ h
  simp [rowD, flatD, flatDs, this]
end Cm

set_option linter.all false
/-! the names that forms bind -/
namespace Cm
open PySem L2 PySem.Spec PyProof.Rows
/-- the names that a form binds -/
def held : Hd → List Str
  | .fn xs => xs
  | .one w x => if w = "set" then [] else [x]
  | .bind _ xs => xs
  | _ => []
def isLet : Hd → Bool
  | .bind w _ => decide (w = "let")
  | _ => false
def isTak : Hd → Bool
  | .one w _ => !decide (w = "set")
  | _ => false
def isFn (h : Hd) : Bool := kd h == 4
def isName (h : Hd) : Bool := kd h == 1
/-- .. over the i-th of n parts -/
def under (h : Hd) (n i : Nat) : List Str := if isLet h = true ∧ i + 1 < n then [] else held h
def bnds (h : Hd) (n : Nat) : List PyData := (List.range n).map fun i => encs (under h n i)
theorem under_no {h : Hd} (e : isLet h = false) (n i : Nat) : under h n i = held h := by
  unfold under
  rw [e, if_neg (fun z => Bool.false_ne_true z.1)]
theorem bnds_no {h : Hd} (e : isLet h = false) (n : Nat) : bnds h n = List.replicate n (encs (held h)) := by
  unfold bnds
  have : (fun i => encs (under h n i)) = fun _ => encs (held h) := by
    funext i
    rw [under_no e]
  rw [this, List.map_const', List.length_range]
theorem bnds_let {h : Hd} (e : isLet h = true) (n : Nat) : bnds h (n + 1) = List.replicate n (encs []) ++ [encs (held h)] := by
  unfold bnds
  rw [List.range_succ, List.map_append]
  have h1 : (List.range n).map (fun i => encs (under h (n + 1) i)) = List.replicate n (encs []) := by
    have : (List.range n).map (fun i => encs (under h (n + 1) i)) = (List.range n).map (fun _ => encs []) := List.map_congr_left fun i hi => by
      have := List.mem_range.mp hi
      unfold under
      rw [if_pos ⟨e, by omega⟩]
    rw [this, List.map_const', List.length_range]
  rw [h1]
  congr 1
  show [encs (under h (n + 1) n)] = _
  unfold under
  rw [if_neg (fun z => by omega)]
theorem flat_bnds (h : Hd) (n : Nat) : flatDs (bnds h n) = true := flatDs_of _ fun d hd => by
  obtain ⟨i, _, rfl⟩ := List.mem_map.mp hd
  exact flat_strs _
theorem under_at {h : Hd} {n i : Nat} (hi : i < n) : (bnds h n)[i]? = some (encs (under h n i)) := by
  unfold bnds
  rw [List.getElem?_map, List.getElem?_range hi]
  rfl
theorem under_len {h : Hd} {m : Nat} (o : hok h m) (l : m ≤ 11) (n i : Nat) : (under h n i).length ≤ 100 := by
  unfold under
  split
  · exact Nat.zero_le _
  · cases h with
    | fn xs => exact o.2.1
    | one w x =>
      show (if w = "set" then [] else [x] : List Str).length ≤ 100
      split
      · exact Nat.zero_le _
      · exact (by decide : 1 ≤ 100)
    | bind w xs =>
      have := o.1
      show xs.length ≤ 100
      omega
    | _ => exact Nat.zero_le _
theorem held_sok {h : Hd} {m : Nat} (o : hok h m) : ∀ x ∈ held h, sok x := by
  cases h with
  | fn xs => exact o.2.2
  | one w x =>
    show ∀ y ∈ (if w = "set" then [] else [x] : List Str), sok y
    split
    · intro y hy; cases hy
    · intro y hy
      rw [List.mem_singleton.mp hy]
      exact o.2.2
  | bind w xs => exact o.2.2
  | _ => intro y hy; cases hy
section
variable {h : Hd} {n : Nat}
theorem eq_fn (o : hok h n) : decide (V.str (wd h) = V.str "fn") = isFn h := by
  rw [decS]
  exact by_kind (fun w => decide (w = "fn")) (fun k => k == 4) (by decide +kernel) o
theorem eq_name (o : hok h n) : decide (V.str (wd h) = V.str "name") = isName h := by
  rw [decS]
  exact by_kind (fun w => decide (w = "name")) (fun k => k == 1) (by decide +kernel) o
theorem in_T (o : hok h n) : inV (.str (wd h)) ((["keep", "once", "take"] : List Str).map V.str) = isTak h := by
  have other : kd h ≠ 3 → inV (.str (wd h)) ((["keep", "once", "take"] : List Str).map V.str) = false := fun q => by
    have key : ∀ c < 10, c ≠ 3 → ∀ w ∈ wordsOf c, inV (.str w) ((["keep", "once", "take"] : List Str).map V.str) = false := by decide +kernel
    exact key _ (wd_mem o).1 q _ (wd_mem o).2
  cases h with
  | one w x =>
    have key : ∀ w ∈ oneW, inV (.str w) ((["keep", "once", "take"] : List Str).map V.str) = !decide (w = "set") := by decide +kernel
    exact key w o.2.1
  | num i => exact other (Nat.ne_of_beq_eq_false rfl)
  | name i => exact other (Nat.ne_of_beq_eq_false rfl)
  | lit i => exact other (Nat.ne_of_beq_eq_false rfl)
  | fn i => exact other (Nat.ne_of_beq_eq_false rfl)
  | bind i _ => exact other (Nat.ne_of_beq_eq_false rfl)
  | doo => exact other (Nat.ne_of_beq_eq_false rfl)
  | call => exact other (Nat.ne_of_beq_eq_false rfl)
  | op i => exact other (Nat.ne_of_beq_eq_false rfl)
  | plain i => exact other (Nat.ne_of_beq_eq_false rfl)
theorem eq_set (o : hok h n) : decide (V.str (wd h) = V.str "set") = (kd h == 3 && !isTak h) := by
  have other : kd h ≠ 3 → decide (wd h = "set") = false := fun q => by
    have key : ∀ c < 10, c ≠ 3 → ∀ w ∈ wordsOf c, decide (w = ("set" : Str)) = false := by decide +kernel
    exact key _ (wd_mem o).1 q _ (wd_mem o).2
  rw [decS]
  cases h with
  | one w x =>
    show decide (w = "set") = (true && !(!decide (w = "set")))
    rw [Bool.not_not, Bool.true_and]
  | num i => exact other (Nat.ne_of_beq_eq_false rfl)
  | name i => exact other (Nat.ne_of_beq_eq_false rfl)
  | lit i => exact other (Nat.ne_of_beq_eq_false rfl)
  | fn i => exact other (Nat.ne_of_beq_eq_false rfl)
  | bind i _ => exact other (Nat.ne_of_beq_eq_false rfl)
  | doo => exact other (Nat.ne_of_beq_eq_false rfl)
  | call => exact other (Nat.ne_of_beq_eq_false rfl)
  | op i => exact other (Nat.ne_of_beq_eq_false rfl)
  | plain i => exact other (Nat.ne_of_beq_eq_false rfl)
theorem eq_let (o : hok h n) : decide (V.str (wd h) = V.str "let") = isLet h := by
  have other : kd h ≠ 5 → decide (wd h = "let") = false := fun q => by
    have key : ∀ c < 10, c ≠ 5 → ∀ w ∈ wordsOf c, decide (w = ("let" : Str)) = false := by decide +kernel
    exact key _ (wd_mem o).1 q _ (wd_mem o).2
  rw [decS]
  cases h with
  | bind w x => rfl
  | num i => exact other (Nat.ne_of_beq_eq_false rfl)
  | name i => exact other (Nat.ne_of_beq_eq_false rfl)
  | lit i => exact other (Nat.ne_of_beq_eq_false rfl)
  | fn i => exact other (Nat.ne_of_beq_eq_false rfl)
  | one i _ => exact other (Nat.ne_of_beq_eq_false rfl)
  | doo => exact other (Nat.ne_of_beq_eq_false rfl)
  | call => exact other (Nat.ne_of_beq_eq_false rfl)
  | op i => exact other (Nat.ne_of_beq_eq_false rfl)
  | plain i => exact other (Nat.ne_of_beq_eq_false rfl)
end
/-- the names that a tree names (or sets alone), as the form of a list -/
def own (sa : Bool) : Hd → List Str
  | .name x => if sa = true then [] else [x]
  | .one w x => if w = "set" then [x] else []
  | _ => []
mutual
def Tr.free (sa : Bool) : Tr → List Str
  | .mk h ps => own sa h ++ Tr.frees sa h ps.length 0 ps
def Tr.frees (sa : Bool) (h : Hd) (n : Nat) : Nat → List Tr → List Str
  | _, [] => []
  | i, t :: ts => (t.free sa).filter (fun x => !decide (x ∈ under h n i)) ++ Tr.frees sa h n (i + 1) ts
end
theorem frees_snoc (sa : Bool) (h : Hd) (n : Nat) (t : Tr) : ∀ (ts : List Tr) (i : Nat), Tr.frees sa h n i (ts ++ [t]) = Tr.frees sa h n i ts ++ (t.free sa).filter (fun x => !decide (x ∈ under h n (i + ts.length)))
  | [], i => by
    show (t.free sa).filter _ ++ [] = [] ++ _
    simp
  | a :: ts, i => by
    show (a.free sa).filter _ ++ Tr.frees sa h n (i + 1) (ts ++ [t]) = ((a.free sa).filter _ ++ Tr.frees sa h n (i + 1) ts) ++ _
    rw [frees_snoc sa h n t ts (i + 1), List.append_assoc, List.length_cons, show i + 1 + ts.length = i + (ts.length + 1) by omega]
theorem own_len (sa : Bool) (h : Hd) : (own sa h).length ≤ 1 := by
  cases h with
  | name x => show (if sa = true then [] else [x] : List Str).length ≤ 1; split <;> simp
  | one w x => show (if w = "set" then [x] else [] : List Str).length ≤ 1; split <;> simp
  | _ => exact Nat.zero_le _
mutual
theorem free_len (sa : Bool) : ∀ t : Tr, (t.free sa).length ≤ t.size
  | .mk h ps => by
    have h1 := own_len sa h
    have h2 := frees_len sa h ps.length 0 ps
    show (own sa h ++ Tr.frees sa h ps.length 0 ps).length ≤ Tr.sizes ps + 1
    rw [List.length_append]
    omega
theorem frees_len (sa : Bool) (h : Hd) (n : Nat) : ∀ (i : Nat) (ts : List Tr), (Tr.frees sa h n i ts).length ≤ Tr.sizes ts
  | _, [] => Nat.le_refl _
  | i, t :: ts => by
    have h1 := free_len sa t
    have h2 := frees_len sa h n (i + 1) ts
    have h3 := List.length_filter_le (fun x => !decide (x ∈ under h n i)) (t.free sa)
    show ((t.free sa).filter _ ++ Tr.frees sa h n (i + 1) ts).length ≤ t.size + Tr.sizes ts
    rw [List.length_append]
    omega
end
mutual
theorem free_sok (sa : Bool) : ∀ t : Tr, t.ok → ∀ x ∈ t.free sa, sok x
  | .mk h ps, o, x, m => by
    have o' : hok h ps.length ∧ ps.length ≤ 11 ∧ Tr.oks ps := o
    have m' : x ∈ own sa h ++ Tr.frees sa h ps.length 0 ps := m
    rcases List.mem_append.mp m' with m' | m'
    · cases h with
      | name y =>
        have m2 : x ∈ (if sa = true then [] else [y] : List Str) := m'
        split at m2
        · cases m2
        · rw [List.mem_singleton.mp m2]
          exact o'.1.2
      | one w y =>
        have m2 : x ∈ (if w = "set" then [y] else [] : List Str) := m'
        split at m2
        · rw [List.mem_singleton.mp m2]
          exact o'.1.2.2
        · cases m2
      | _ => cases m'
    · exact frees_sok sa h ps.length 0 ps o'.2.2 x m'
theorem frees_sok (sa : Bool) (h : Hd) (n : Nat) : ∀ (i : Nat) (ts : List Tr), Tr.oks ts → ∀ x ∈ Tr.frees sa h n i ts, sok x
  | _, [], _, _, m => by cases m
  | i, t :: ts, o, x, m => by
    have m' : x ∈ (t.free sa).filter (fun x => !decide (x ∈ under h n i)) ++ Tr.frees sa h n (i + 1) ts := m
    rcases List.mem_append.mp m' with m' | m'
    · exact free_sok sa t o.1 x (List.mem_filter.mp m').1
    · exact frees_sok sa h n (i + 1) ts o.2 x m'
end
end Cm

set_option linter.all false
/-! own exceptions that are made as values, their fields, isinstance of them -/
namespace Cm
open PySem L2 PySem.Spec PyProof.Rows
/-- a made exception with fields fs -/
def ExV (H : Hp) (a C : Addr) (fs : List (Str × V)) : Prop := ∃ d, H a = some (exo a C (some d)) ∧ H d = some (exd d fs)
theorem ExV.same {H H' : Hp} {a C : Addr} {fs : List (Str × V)} (x : ExV H a C fs) (s : Same H H') : ExV H' a C fs := by
  obtain ⟨d, e1, e2⟩ := x
  exact ⟨d, s _ _ e1, s _ _ e2⟩
/-- C(e, ..) as a value, C's own __init__ keeping sp -/
def tMkV (C : Addr) (sp : Sp) (ta : TA) : TE := fun σ H Q => ta σ H fun vs H1 => vs.length ≤ 1000 ∧ ∀ a, H1 a = Option.none → sp (.ref a :: vs) (upd H1 a (exo a C Option.none)) (fun v H2 => v = .non ∧ Q (.ref a) H2) E0
theorem pe_mkV {X : Cx} {x : Str} {C fI : Addr} {k : Nat} {fd : FuncData} {ps : List Str} {sp : Sp} {e : Expr} {es : List Expr} {ta : TA} {p pos : Pos} (T : OexC X.K C) (iC : PySem.W.findIn X.K (.ref C) "__init__" = some (some (.ref fI))) (tI : PySem.W.typeIn X.K (.ref fI) = some (.type "function"))
    (F1 : FnOk X.prog X.w X.K X.mg X.base CX0 k fI fd ps sp) (hr : Room (k + 1) X.A) (hb : Binds X.K fd ps []) (hg : Gl X x) (hm : X.mg x = some (.ref C)) (ha : PA X (e :: es) ta)
    (hdb : (x == ("__debug__" : Str)) = false := by decide) (he : starEach (e :: es) X.env = (false, eval e X.env) :: starEach es X.env := by rfl) (hpl : (backTo pos (starEach es X.env)).any (·.1) = false := by rfl) :
    PE X (.Call (.Name x p) (e :: es) [] pos) (tMkV C sp ta) := by
  refine ⟨fun pins s σ H Q I h => ?_⟩
  obtain ⟨nm, q, N, bs, bm, sn, sub, ab, col, dd, k0, k1, k2, k3, k5, hC, hbm⟩ := T.cls
  refine wpAny_Call_Name_kw (ld_glob I hg hm ?_ hdb)
  refine PySem.W.callWith_K (h₀ := X.base) I.ok.mod.kin T.kC (thn (ha.run pos pins s σ H _ I h) fun us s1 ⟨vs, H1, I1, r1, hz, q1⟩ => ⟨I1.kIn, ?_⟩) he hpl
  show wpAny _ _ (call (.ref C) us) _ _ _
  obtain ⟨hp, g, dr, tk, os⟩ := s1
  have hsz : hp.objs.size ≤ hp.objs.size + 1 := Nat.le_succ _
  have hq := q1 (hp.objs.size + 1) (I1.hok.fresh hsz)
  have hget : ((hp.push (PySem.W.kdv_tup us)).push (PySem.HandSPX.excO C hp.objs.size)).get? (hp.objs.size + 1) = some (PySem.HandSPX.excO C hp.objs.size) := by heap_get
  have I2 : Inv X pins σ (upd H1 (hp.objs.size + 1) (exo (hp.objs.size + 1) C Option.none)) ⟨(hp.push (PySem.W.kdv_tup us)).push (PySem.HandSPX.excO C hp.objs.size), g, dr, tk, os⟩ :=
    I1.laid (t' := tk) (a := hp.objs.size + 1) (o := exo (hp.objs.size + 1) C Option.none) (fun b o e => Heap.get?_push_of_some _ (Heap.get?_push_of_some _ e)) hsz (exo_ok hget)
  have r2 : Vals (V.ref (hp.objs.size + 1) :: vs) (Value.ref (hp.objs.size + 1) :: us) := .cons rfl r1
  have hl : (Value.ref (hp.objs.size + 1) :: us).length = ps.length := by
    have e := r2.length
    rw [F1.len _ _ _ _ hq] at e
    exact e.symm
  have hus : us.length ≤ sizeLine := by
    rw [← Paired.length r1, sizeLine_eq]
    omega
  have hbb := hb ⟨(hp.push (PySem.W.kdv_tup us)).push (PySem.HandSPX.excO C hp.objs.size), g, dr, tk, os⟩ (Value.ref (hp.objs.size + 1) :: us) I2.kIn (by rw [List.append_nil]; exact hl)
  rw [List.append_nil] at hbb
  refine wpAny_call (PySem.HandSPX.call_own F.excBase_ValueError (fun Y => PySem.HandSPX.refsVE_contains Y bm hbm) (I1.kIn _ _ hC) (PySem.W.looks_findIn I1.kIn iC) (fun self => PySem.W.bind_fn I1.kIn self tI) hus
    (codeAny_mono (F1.run _ X.stack _ _ ⟨Value.ref (hp.objs.size + 1) :: us, []⟩ (Value.ref (hp.objs.size + 1) :: us) _ _ E0 (hr.make C us []) (I2.env0.make C us []) hbb r2 hq) fun r s' hq' => ?_))
  cases r with
  | error er => exact pass0 pins σ _ _ er s' I2 hq'
  | ok fl =>
    cases fl with
    | ret u =>
      obtain ⟨v, H2, J, rv, ev, q2⟩ := I2.after hq'
      subst ev
      exact ⟨rv, .ref (hp.objs.size + 1), H2, J, rfl, q2⟩
    | next => exact False.elim hq'
    | brk => exact False.elim hq'
    | cont => exact False.elim hq'
/-! ### x.f -/
def tFldE (K : PySem.W.Frag) (f : Str) (te : TE) : TE := fun σ H Q => te σ H fun x H1 => ∃ (a C : Addr) (fs : List (Str × V)) (v : V), x = .ref a ∧ XfC K C ∧ PySem.W.findIn K (.ref C) f = some Option.none ∧ ExV H1 a C fs ∧ fs.lookup f = some v ∧ Q v H1
theorem pe_fldE {X : Cx} {e : Expr} {te : TE} {pos : Pos} {n : Str} (he : PE X e te) (hb : attributeBase e n X.env (eval e X.env) = eval e X.env := by rfl) : PE X (.Attribute e n pos) (tFldE X.K n te) := by
  refine ⟨fun pins s σ H Q I h => ?_⟩
  refine attr_of hb (thn (he.run pins s σ H _ I h) fun u s1 hh => ?_)
  obtain ⟨x, H1, I1, rx, a, C, fs, v, ex, T, hno, ⟨dd, eh, ea⟩, l, q⟩ := hh
  subst ex
  obtain rfl : u = Value.ref a := rx
  obtain ⟨t1, ho⟩ := exo_at I1.hok eh
  obtain ⟨mA, hns, hr⟩ := exd_at I1.hok ea
  obtain ⟨od, hod, hl⟩ := lookIn_ns hns
  obtain ⟨u, hu, ru⟩ := RelO.some_of (v := v) (o := mA n) (by rw [← l]; exact hr n)
  have J : PySem.W.InstAt s1.heap a { cls := .ref C, dict := some dd, data := .fields #[.ref t1, .none, .none, .none, .bool false, .none] } C (some od) := ⟨ho, rfl, rfl, hod⟩
  exact HandSPX.exc_get I1.kIn J T.ga T.gg T.exC (PySem.W.findObj_own T.hdC hno rfl (by rw [hl, hu])) (handed_of ru) ⟨v, H1, I1.tok _, ru, q⟩
end Cm
/-! ### isinstance(x, D), whichever class (after the library's rule for an exception without a dict) -/
namespace PySem.W
open PySem PySem.Spec PySem.Calls PyProof.Rows
theorem cls_ofExc {prog : Program} {w : World} {A : Around} {E : Value → Shared → Prop} {s : Shared} {K : Frag} {x D : Addr} {ox od : Obj} {Q : Option Value → Shared → Prop} (T : L2.ExcC K D) (X : K.In s.heap) (I : InstAt s.heap x ox D (some od))
    (h : Q (some (.ref D)) { s with toks := s.toks + 1 }) : wpAny (model prog w) A (getAttr? (.ref x) "__class__") Q E s := by
  have hf : findObj K D (some od) "__class__" = some (.bind (.builtin "getset_descriptor.__get__") (.builtin "object.__class__")) := findObj_data (by obtain ⟨cd, hc, _⟩ := any_some T.hd; rw [hc]; rfl) T.ha T.hn T.ht
  obtain ⟨hp, g, d, t, os⟩ := s
  have L0 := I.type (M := model prog w)
  have L1 := looks_findIn (M := model prog w) X T.hg
  have L2 := looks_findIn (M := model prog w) X T.hk
  have L3 := looks_find (M := model prog w) X I hf
  have sub : Looks (model prog w) hp (isInstance (.ref x) (.type "BaseException")) true := L0.andThen (looks_subIn X T.hs)
  have ne : (Value.builtin "BaseException.__getattribute__" == Value.builtin "object.__getattribute__") = false := by decide +kernel
  unfold getAttr? getAttrBy? getAttrBy
  refine wpAny_bind (wpAny_mkText (wpAny_bind (wpAny_attempt (wpAny_holding (wpAny_bind (L0.at (wpAny_bind (L1.at ?_))))))))
  show wpAny _ _ (if (onTheHeap (Value.ref D) && Value.builtin "BaseException.__getattribute__" == Value.builtin "object.__getattribute__") = true then _ else _) _ _ _
  rw [show (onTheHeap (Value.ref D) && Value.builtin "BaseException.__getattribute__" == Value.builtin "object.__getattribute__") = false by rw [ne]; rfl, if_neg Bool.false_ne_true]
  unfold getAttrByItsOwn hookBefore
  refine wpAny_bind ?_
  rw [if_pos (show onTheHeap (Value.ref D) = true from rfl)]
  refine L2.at (wpAny_bind (wpAny_attempt (wpAny_holding ?_)))
  unfold callGetattribute
  rw [show (false && onTheHeap (Value.builtin "BaseException.__getattribute__")) = false from rfl, if_neg Bool.false_ne_true]
  unfold boundAndCalled
  rw [PySem.F.excAttr_ValueError.ga.bind (.ref x)]
  refine wpAny_bind (wpAny_pure ?_)
  show wpAny _ _ (call (.builtin "BaseException.__getattribute__") [.ref x, .str "__class__" t]) _ _ _
  refine wpAny_call (codeAny_call_builtin PySem.F.excAttr_ValueError.ga.plain PySem.F.entry_bexc_ga ?_)
  refine @check_slot (model prog w) _ _ ⟨hp, g, d, t + 1, os⟩ "BaseException.__getattribute__" "BaseException" "__getattribute__" (.ref x) [.str "__class__" t] [] _ (by decide +kernel) (by decide +kernel) sub (PySem.F.args_bexc_ga (.ref x) (.str "__class__" t)) ?_
  unfold Builtin.«object.__getattribute__»
  refine wpAny_bind (wpAny_of_eq (a := ((Value.ref x : Value), [Value.str "__class__" t])) (by first | rfl | (simp only [slotArgs]; rfl)) ?_)
  refine wpAny_bind (wpAny_pure (wpAny_bind (L0.at (wpAny_bind (L3.at ?_)))))
  show wpAny _ _ (holding [Value.builtin "object.__class__"] (call (.builtin "getset_descriptor.__get__") [.builtin "object.__class__", .ref x, .ref D]) >>= ret) _ _ _
  refine wpAny_bind (wpAny_holding (wpAny_call (class_get (s := ⟨hp, g, d, t + 1, os⟩) (ox := ox) (od := some od) X I T.hm ?_)))
  refine wpAny_pure ?_
  show wpAny _ _ (handedOut (.ref D)) _ _ _
  rw [handedOut_of (v := .ref D) rfl]
  first
    | exact wpAny_pure (wpAny_pure h)
    | exact wpAny_pure h
    | exact wpAny_pure (wpAny_bind (wpAny_pure (wpAny_pure h)))
theorem kit_ofExc {K : Frag} {x D : Addr} {ox od : Obj} (T : L2.ExcC K D) : KitX K (.ref x) (.ref D) (fun h => InstAt h x ox D (some od)) where
  ty := fun _ _ _ I => I.type
  it := fun _ _ X _ => by
    obtain ⟨cdD, hcD, _⟩ := any_some T.hd
    unfold clsIn at hcD
    split at hcD
    · rename_i c' d' cd' sl' ho
      intro A' Q' E' s' k q
      unfold isType loadHead
      exact wpAny_bind (wpAny_loadPart (k _ _ (X _ _ ho)) (wpAny_pure q))
    · cases hcD
  ne := fun h tp dd its n sl X htp => by
    obtain ⟨cdD, hcD, _⟩ := any_some T.hd
    refine Bool.eq_false_iff.mpr fun q => ?_
    have e : D = tp := Value.ref.inj (beq_iff_eq.mp q)
    subst e
    unfold clsIn at hcD
    split at hcD
    · rename_i c' d' cd' sl' ho
      have z := (X _ _ ho).symm.trans htp
      cases z
    · cases hcD
  ca := fun X I k => cls_ofExc T X I k
end PySem.W
namespace Cm
open PySem L2 PySem.Spec PyProof.Rows
def rIsV (K : PySem.W.Frag) : List V → Hp → VK → Prop := fun xs H Q => ∃ (a C : Addr) (fs : List (Str × V)) (c : V) (cv : Value) (b : Bool), xs = [.ref a, c] ∧ ClsV c cv ∧ ExcC K C ∧ ExV H a C fs ∧ PySem.W.kitOne K (.ref C) cv = some b ∧ Q (.bl b) H
theorem call_isV {X : Cx} : CallR X (.builtin "isinstance") (rIsV X.K) := by
  intro pins s σ H xs us Q I r h
  obtain ⟨a, C, fs, c, cv, b, rfl, kc, T, ⟨dd, eh, ea⟩, e, q⟩ := h
  obtain ⟨u1, u2, rfl, r1, r2⟩ := vals2 r
  obtain rfl : u1 = Value.ref a := r1
  have e2 := kc.eq r2
  subst e2
  obtain ⟨t1, ho⟩ := exo_at I.hok eh
  obtain ⟨mA, hns, hr⟩ := exd_at I.hok ea
  obtain ⟨od, hod, hl⟩ := lookIn_ns hns
  have J : PySem.W.InstAt s.heap a { cls := .ref C, dict := some dd, data := .fields #[.ref t1, .none, .none, .none, .bool false, .none] } C (some od) := ⟨ho, rfl, rfl, hod⟩
  exact PySem.W.kia_one (PySem.W.kit_ofExc T) I.kIn J e (fun z => nomatch z) fun tk => ⟨.bl b, H, I.tok tk, rfl, q⟩
end Cm

set_option linter.all false
/-! classes of errors with fields: what is needed of each -/
namespace Cm
open PySem L2 PySem.Spec PyProof.Rows
/-- what an __init__ that stores its parameters leaves -/
def spI (K : PySem.W.Frag) (fl : List Str) : Sp := fun vs H Q _ => ∃ (a C : Addr) (xs : List V), vs = .ref a :: xs ∧ xs.length = fl.length ∧ OexC K C ∧ (∀ f ∈ fl, PySem.W.findIn K (.ref C) f = some Option.none) ∧ H a = some (exo a C Option.none) ∧
  ∀ (d : Addr) (H' : Hp), H d = Option.none → d ≠ a → (∀ b o, b ≠ a → H b = some o → H' b = some o) → H' a = some (exo a C (some d)) → H' d = some (exd d (fl.zip xs).reverse) → Q .non H'
structure Mk (P : Program) (w : World) (K : PySem.W.Frag) (mg : Str → Option Value) (base : Heap) (C : Addr) (x : Str) (fl : List Str) : Prop where
  oex : OexC K C
  g : mg x = some (.ref C)
  xf : XfC K C
  ec : ExcC K C
  no : ∀ f ∈ fl, PySem.W.findIn K (.ref C) f = some Option.none
  init : ∃ (fI : Addr) (fd : FuncData) (ps : List Str), PySem.W.findIn K (.ref C) "__init__" = some (some (.ref fI)) ∧ PySem.W.typeIn K (.ref fI) = some (.type "function") ∧ FnOk P w K mg base CX0 1 fI fd ps (spI K fl) ∧ Binds K fd ps []
def tMk (C : Addr) (fl : List Str) (ta : TA) : TE := fun σ H Q => ta σ H fun vs H1 => vs.length = fl.length ∧ ∀ a H', Same H1 H' → ExV H' a C (fl.zip vs).reverse → Q (.ref a) H'
theorem pe_mk {X : Cx} {x : Str} {C : Addr} {fl : List Str} {j : Nat} {e : Expr} {es : List Expr} {ta : TA} {p pos : Pos} (M : Mk X.prog X.w X.K X.mg X.base C x fl) (hr : Room j X.A) (hk : 2 ≤ j) (hl : fl.length ≤ 1000) (hg : Gl X x) (ha : PA X (e :: es) ta)
    (hdb : (x == ("__debug__" : Str)) = false := by decide) (he : starEach (e :: es) X.env = (false, eval e X.env) :: starEach es X.env := by rfl) (hpl : (backTo pos (starEach es X.env)).any (·.1) = false := by rfl) :
    PE X (.Call (.Name x p) (e :: es) [] pos) (tMk C fl ta) := by
  obtain ⟨fI, fd, ps, h1, h2, F, b⟩ := M.init
  have ha' : PA X (e :: es) (fun σ H Q => ∃ Q0, ta σ H Q0 ∧ ∀ vs H1, Q0 vs H1 → Q vs H1) := ⟨fun pos pins s σ H Q I ⟨Q0, h0, imp⟩ =>
    wpAny_mono (ha.run pos pins s σ H Q0 I h0) (fun us s1 ⟨vs, H1, I1, r, q⟩ => ⟨vs, H1, I1, r, imp _ _ q⟩) (fun _ _ z => z)⟩
  have R := pe_mkV (p := p) (pos := pos) M.oex h1 h2 F (hr.mono hk) b hg M.g ha' hdb he hpl
  refine ⟨fun pins s σ H Q I h => R.run pins s σ H Q I ⟨_, h, fun vs H1 ⟨hv, hq⟩ => ⟨by omega, fun a ha0 => ?_⟩⟩⟩
  refine ⟨a, C, vs, rfl, hv, M.oex, M.no, upd_same, fun d H' _ _ keep ea ed => ⟨rfl, hq a H' (fun b o q => ?_) ⟨d, ea, ed⟩⟩⟩
  have hb : b ≠ a := fun z => by
    rw [z, ha0] at q
    cases q
  exact keep b o hb (by rw [upd_ne hb]; exact q)
/-- self.f = x, then perhaps self.g = y -/
theorem init1 {K : PySem.W.Frag} {H : Hp} {a C : Addr} {f : Str} {x : V} {Q : Hp → Prop} (T : OexC K C) (no : PySem.W.findIn K (.ref C) f = some Option.none) (ha : H a = some (exo a C Option.none))
    (k : ∀ (d : Addr) (H' : Hp), H d = Option.none → d ≠ a → (∀ b o, b ≠ a → H b = some o → H' b = some o) → H' a = some (exo a C (some d)) → H' d = some (exd d [(f, x)]) → Q H') :
    ∃ a' C', V.ref a = .ref a' ∧ OexC K C' ∧ PySem.W.findIn K (.ref C') f = some Option.none ∧ ((H a' = some (exo a' C' Option.none) ∧ ∀ dx, H dx = Option.none → dx ≠ a' → Q (upd (upd H dx (exd dx [(f, x)])) a' (exo a' C' (some dx)))) ∨
      ∃ (dx : Addr) (fs : List (Str × V)), H a' = some (exo a' C' (some dx)) ∧ H dx = some (exd dx fs) ∧ fs.length ≤ 900 ∧ Q (upd H dx (exd dx ((f, x) :: fs)))) :=
  ⟨a, C, rfl, T, no, .inl ⟨ha, fun dx hd ne => k dx _ hd ne (fun b o hb e => by rw [upd_ne hb, upd_ne (ne_of_none e hd)]; exact e) upd_same (by rw [upd_ne ne]; exact upd_same)⟩⟩
theorem init2 {K : PySem.W.Frag} {H : Hp} {a C d : Addr} {g : Str} {y : V} {fs : List (Str × V)} {Q : Hp → Prop} (T : OexC K C) (no : PySem.W.findIn K (.ref C) g = some Option.none) (ha : H a = some (exo a C (some d))) (hd : H d = some (exd d fs)) (hl : fs.length ≤ 900) (ne : d ≠ a)
    (k : (∀ b o, b ≠ d → H b = some o → (upd H d (exd d ((g, y) :: fs))) b = some o) → Q (upd H d (exd d ((g, y) :: fs)))) :
    ∃ a' C', V.ref a = .ref a' ∧ OexC K C' ∧ PySem.W.findIn K (.ref C') g = some Option.none ∧ ((H a' = some (exo a' C' Option.none) ∧ ∀ dx, H dx = Option.none → dx ≠ a' → Q (upd (upd H dx (exd dx [(g, y)])) a' (exo a' C' (some dx)))) ∨
      ∃ (dx : Addr) (fs : List (Str × V)), H a' = some (exo a' C' (some dx)) ∧ H dx = some (exd dx fs) ∧ fs.length ≤ 900 ∧ Q (upd H dx (exd dx ((g, y) :: fs)))) :=
  ⟨a, C, rfl, T, no, .inr ⟨d, fs, ha, hd, hl, k fun b o hb e => by rw [upd_ne hb]; exact e⟩⟩
end Cm

set_option linter.all false
/-! an error without arguments; isinstance of errors of any kind -/
namespace Cm
open PySem L2 PySem.Spec PyProof.Rows
theorem pe_exc0 {X : Cx} {C : Addr} {bmB : List Value} {B newId initId : String} {x : Str} {p pos : Pos} (F : ExcBaseFacts B newId initId bmB) (q : PySem.W.excIn X.K C bmB newId = true) (gC : X.mg x = some (.ref C)) (kC : PySem.W.keepIn X.K (.ref C) = true) (hg : Gl X x)
    (hdb : (x == ("__debug__" : Str)) = false := by decide) :
    PE X (.Call (.Name x p) [] [] pos) (fun _ H Q => ∀ a, H a = Option.none → Q (.ref a) (upd H a (ExO (.ref C) a))) := by
  refine ⟨fun pins s σ H Q I h => ?_⟩
  refine wpAny_Call_Name_kw (ld_glob I hg gC ?_ hdb)
  refine PySem.W.callWith_K0 I.kIn kC ?_
  show wpAny _ _ (call (.ref C) []) _ _ _
  obtain ⟨bm, N, nm, qn, bs, hdct, sn, sub, ab, col, dd, k0, k1, k2, k3, k5, mN, hC, hN, hni, T⟩ := exc_obj I.kIn q
  refine wpAny_call_exc_subT F T hC hN hni (fun h' a hm => ?_) (by show 0 ≤ sizeLine; rw [sizeLine_eq]; omega)
  have hn : H a = Option.none := I.hok.gone hm.new
  obtain ⟨t, ht, _, _⟩ := hm.there
  exact ⟨.ref a, upd H a (ExO (.ref C) a), I.laidN hm.keeps hm.new hn (exO_ok ht ⟨rfl, rfl⟩ rfl rfl rfl (show 4 < 6 by decide)), rfl, h a hn⟩
/-- an error: with a dict, without, or kept behind a try -/
def ExA (H : Hp) (a C : Addr) : Prop := (∃ fs, ExV H a C fs) ∨ H a = some (ExO (.ref C) a) ∨ ∃ dd fs, H a = some (ExH a (.ref C) (some dd)) ∧ H dd = some (.xd fs)
theorem ExA.same {H H' : Hp} {a C : Addr} (x : ExA H a C) (s : Same H H') : ExA H' a C := by
  rcases x with ⟨fs, x⟩ | x | ⟨dd, fs, x, y⟩
  · exact .inl ⟨fs, x.same s⟩
  · exact .inr (.inl (s _ _ x))
  · exact .inr (.inr ⟨dd, fs, s _ _ x, s _ _ y⟩)
def rIsA (K : PySem.W.Frag) : List V → Hp → VK → Prop := fun xs H Q => ∃ (a C : Addr) (c : V) (cv : Value) (b : Bool), xs = [.ref a, c] ∧ ClsV c cv ∧ ExcC K C ∧ ExA H a C ∧ PySem.W.kitOne K (.ref C) cv = some b ∧ Q (.bl b) H
theorem call_isA {X : Cx} : CallR X (.builtin "isinstance") (rIsA X.K) := by
  intro pins s σ H xs us Q I r h
  obtain ⟨a, C, c, cv, b, rfl, kc, T, x, e, q⟩ := h
  rcases x with ⟨fs, x⟩ | x | ⟨dd, fs, eh, ea⟩
  · exact call_isV pins s σ H _ us Q I r ⟨a, C, fs, c, cv, b, rfl, kc, T, x, e, q⟩
  · obtain ⟨u1, u2, rfl, r1, r2⟩ := vals2 r
    obtain rfl : u1 = Value.ref a := r1
    have e2 := kc.eq r2
    subst e2
    have hx : ObjOk X.prog X.w H s.heap a (ExO (.ref C) a) := I.hok a _ x
    obtain ⟨oe, vs, ho, hz, hd, _⟩ := hx.1
    have J : PySem.W.InstAt s.heap a oe C Option.none := ⟨ho, hz.1, by unfold PySem.W.notCls; rw [hd] <;> rfl, by rw [hz.2]; trivial⟩
    exact PySem.W.kia_one (PySem.W.handS_kitx_exc T.hg T.hk T.hs T.hd T.ha T.hn T.ht T.hm) I.kIn J e (fun z => nomatch z) fun tk => ⟨.bl b, H, I.tok tk, rfl, q⟩
  · obtain ⟨u1, u2, rfl, r1, r2⟩ := vals2 r
    obtain rfl : u1 = Value.ref a := r1
    have e2 := kc.eq r2
    subst e2
    obtain ⟨oe, vs, ho, hz, hd⟩ := exH_at I.hok eh
    have hx : ObjOk X.prog X.w H s.heap dd (.xd fs) := I.hok dd _ ea
    obtain ⟨mA, hns, hr⟩ := hx
    obtain ⟨od, hod, hl⟩ := lookIn_ns hns
    have J : PySem.W.InstAt s.heap a oe C (some od) := ⟨ho, hz.1, by unfold PySem.W.notCls; rw [hd] <;> rfl, by rw [hz.2]; exact hod⟩
    exact PySem.W.kia_one (PySem.W.kit_ofExc T) I.kIn J e (fun z => nomatch z) fun tk => ⟨.bl b, H, I.tok tk, rfl, q⟩
end Cm

set_option linter.all false
/-! raise C(x, ..); try with two clauses of which the second catches and keeps -/
namespace Cm
open PySem L2 PySem.Spec PyProof.Rows
def tRaiseMk (C : Addr) (fl : List Str) (W : WX) (ta : TA) : TS := fun _ σ H => ta σ H fun vs H1 => vs.length = fl.length ∧ ∀ (d : Addr) (H' : Hp), Same H1 H' → H' d = some (.xd (fl.zip vs).reverse) → W (.ref C) (some d) σ H'
theorem ps_raiseMk {X : Cx} {x : Str} {C : Addr} {fl : List Str} {j : Nat} {W : WX} {e : Expr} {es : List Expr} {ta : TA} {p pos pos2 : Pos} (hc : X.calm = true) (M : Mk X.prog X.w X.K X.mg X.base C x fl) (hr : Room j X.A) (hk : 2 ≤ j) (hl : fl.length ≤ 1000) (tk : Takes X W) (hg : Gl X x) (ha : PA X (e :: es) ta)
    (hdb : (x == ("__debug__" : Str)) = false := by decide) (he : starEach (e :: es) X.env = (false, eval e X.env) :: starEach es X.env := by rfl) (hpl : (backTo pos (starEach es X.env)).any (·.1) = false := by rfl) :
    PS X (.Raise (some (.Call (.Name x p) (e :: es) [] pos)) Option.none pos2) (tRaiseMk C fl W ta) := by
  obtain ⟨fI, fd, ps, h1, h2, F, b⟩ := M.init
  have ha' : PA X (e :: es) (fun σ H Q => ∃ Q0, ta σ H Q0 ∧ ∀ vs H1, Q0 vs H1 → Q vs H1) := ⟨fun pos pins s σ H Q I ⟨Q0, h0, imp⟩ =>
    wpAny_mono (ha.run pos pins s σ H Q0 I h0) (fun us s1 ⟨vs, H1, I1, r, q⟩ => ⟨vs, H1, I1, r, imp _ _ q⟩) (fun _ _ z => z)⟩
  have R := ps_raise (pos := pos2) hc tk (pmk_oex (p := p) (pos := pos) M.oex h1 h2 F (hr.mono hk) b .nil (fun _ _ _ _ _ _ _ z => z.elim) hg M.g ha' hdb he hpl)
  refine ⟨fun pins s σ H D I h => R.run pins s σ H D I ⟨_, h, fun vs H1 ⟨hv, hq⟩ => ⟨by omega, fun a ha0 => ?_⟩⟩⟩
  refine ⟨a, C, vs, by rw [List.append_nil], hv, M.oex, M.no, upd_same, fun d H' hd ne keep ea ed => ⟨rfl, d, _, ea, ed, ?_, ?_⟩⟩
  · rw [upd_ne ne] at hd
    exact hd
  · have hd1 : H1 d = Option.none := by rw [upd_ne ne] at hd; exact hd
    refine hq d _ (fun b o q => ?_) upd_same
    have hb : b ≠ a := fun z => by
      rw [z, ha0] at q
      cases q
    rw [upd_ne (ne_of_none q hd1), del_ne hb]
    exact keep b o hb (by rw [upd_ne hb]; exact q)
/-- .. of two clauses, the second catches -/
def wHeld2 (K : PySem.W.Frag) (c1 c : Value) (i : Nat) (ts : Addr → TS) (D : Ends) : WX := fun cls d σ H =>
  PySem.W.exmOne K cls c1 = some false ∧ PySem.W.exmOne K cls c = some true ∧ ∀ a, H a = Option.none → ts a { nx := fun σ' H' => D.nx (σ'.set i Option.none) H', rt := D.rt, bk := fun σ' H' => D.bk (σ'.set i Option.none) H', ct := fun σ' H' => D.ct (σ'.set i Option.none) H' } (σ.set i (some (.ref a))) (upd H a (ExH a cls d))
section
variable {X : Cx} {x n x1 n1 : Str} {c c1 : Value} {i : Nat} {body suite suite1 : List Stmt} {b₀ b1 : Stmt} {np pos pos' np1 pos1 : Pos} {tb : WX → TS} {ts : Addr → TS}
theorem ps_try_held2 (hs : X.stack = X.env :: X.outer) (hf : X.env.frame = some X.env.locals) (hN : X.N.Nodup) (hi : X.N[i]? = some n) (hln : X.env.kindOf n = some .local) (hc1 : Names X x1 c1) (hc : Names X x c) (hex : X.ex = [])
    (hb : ∀ (W : WX) (pn : List (Addr × Obj)) (xe : Value → Shared → Prop), Takes (X.tr pn xe) W → PassesOwn (model X.prog X.w) X.A X.env xe → PSs (X.tr pn xe) body (tb W))
    (hsu : ∀ (a : Addr) (pn : List (Addr × Obj)), PSs (X.suite a pn) (b₀ :: suite) (ts a)) :
    PS X (.Try body [.ExceptHandler (some (.Name x1 np1)) (some n1) (b1 :: suite1) pos1, .ExceptHandler (some (.Name x np)) (some n) (b₀ :: suite) pos'] [] [] pos) (fun D σ H => tb (wHeld2 X.K c1 c i ts D) D σ H) := by
  refine ⟨fun pins s σ H D I h => ?_⟩
  have ok := I.ok
  have hfr : X.A.frames = some (X.env :: X.outer) := by rw [ok.frames, hs]
  refine wpAny_Try_except ?_
  refine wpAny_mono ((hb (wHeld2 X.K c1 c i ts D) (X.pn ++ pins) (fun e s₁ => wpAny (model X.prog X.w) X.A (noteFrame e X.env) (fun _ s₂ => wpAny (model X.prog X.w) X.A (setFlight e Option.none) (fun _ s₃ =>
    wpAny (model X.prog X.w) X.A (handleBy e X.env [.ExceptHandler (some (.Name x1 np1)) (some n1) (b1 :: suite1) pos1, .ExceptHandler (some (.Name x np)) (some n) (b₀ :: suite) pos']) (SP X pins D) X.xe s₃) X.xe s₂) X.xe s₁) (fun u s' xx => ?_) PassesOwn.looking).run [] s σ H D (I.toTry _) h) (fun f s1 hsp => ?_) (fun e s1 he => he)
  · obtain ⟨a, B, sI, pins', σ', H', cls, d, rfl, J', nb, up, sky, na, os, ag, hb0, hb1, hyes⟩ := xx
    have J : Inv X pins σ' H' sI := J'.ofTry ok
    have sky' : Sky B (X.env :: X.outer) a (Zc cls d) X.env.locals s'.heap := by rw [← hs]; exact sky
    show wpAny _ _ (noteFrame (.ref a) X.env) _ _ _
    refine Sky.land Zc.steady hfr hf sky' fun h3 fl3 up3 => ?_
    have J3 : Inv X pins σ' H' { s' with heap := h3 } := J.landed nb fl3.1 (up.trans up3) os ag
    obtain ⟨oe3, vs3, he3, hz3, hd3⟩ := fl3.there
    have nfr : a ∉ frs X.stack := fun hm => by
      rw [hs] at hm
      obtain ⟨_, o', e', hnf⟩ := fl3.2.2.1.mem hm
      rw [he3] at e'
      cases e'
      exact hnf _ hd3
    have nsI : sI.heap.get? a = Option.none := by
      cases q : sI.heap.get? a with
      | none => rfl
      | some o =>
        have z := nb a o q nfr
        rw [fl3.2.1] at z
        cases z
    have n0 : X.s_0.heap.get? a = Option.none := by
      cases q : X.s_0.heap.get? a with
      | none => rfl
      | some o =>
        obtain ⟨o', z⟩ := J.base.there a o q (by rw [hex]; exact List.not_mem_nil)
        rw [nsI] at z
        cases z
    have nL : a ≠ X.env.locals := fun z => nfr (by
      rw [hs]
      exact List.mem_filterMap.mpr ⟨X.env, List.mem_cons_self, by rw [hf, z]⟩)
    have nC : ∀ y c, X.env.cells.lookup y = some c → c ≠ a := fun y c e z => by
      obtain ⟨v, o, ho, _⟩ := J.cell y c e
      rw [z, nsI] at ho
      cases ho
    have nP : ∀ p ∈ X.pn ++ pins, p.1 ≠ a := fun p hp z => by
      have q := (J.pin p hp).1
      rw [z, nsI] at q
      cases q
    have S3 := suite0 J3 a
    refine wpAny_handleBy_cons (codeAny_handlers_test ?_) (by intro q; cases q)
    have LT : PySem.W.Looks (model X.prog X.w) h3 (typeOf (.ref a)) cls := fun A Q E s k q => wpAny_typeOf_ref (k _ _ he3) (by rw [hz3.1]; exact q)
    have LM0 := PySem.W.exm_one (M := model X.prog X.w) (J3.kIn) LT hb0
    have test1 : ∀ {Q : Value → Shared → Prop} {E : Value → Shared → Prop}, Q c1 { s' with heap := h3 } → wpAny (model X.prog X.w) (X.A.mark (some (.ref a))) (eval (.Name x1 np1) X.env) Q E { s' with heap := h3 } := fun {Q E} q => by
      obtain ⟨hg, hdbg, hm | ⟨hm, hv, hnn⟩⟩ := hc1
      · exact ld_glob (X := X.suite a (X.pn ++ pins)) S3 hg hm q hdbg
      · exact ld_blt (X := X.suite a (X.pn ++ pins)) S3 hg hm hv q hnn hdbg
    refine test1 (LM0.here ?_)
    show wpAny _ X.A (handleBy (.ref a) X.env [.ExceptHandler (some (.Name x np)) (some n) (b₀ :: suite) pos']) _ _ _
    refine wpAny_handleBy_cons (codeAny_handlers_test ?_) (by intro q; cases q)
    have LM := PySem.W.exm_one (M := model X.prog X.w) (J3.kIn) LT hb1
    have test : ∀ {Q : Value → Shared → Prop} {E : Value → Shared → Prop}, Q c { s' with heap := h3 } → wpAny (model X.prog X.w) (X.A.mark (some (.ref a))) (eval (.Name x np) X.env) Q E { s' with heap := h3 } := fun {Q E} q => by
      obtain ⟨hg, hdbg, hm | ⟨hm, hv, hnn⟩⟩ := hc
      · exact ld_glob (X := X.suite a (X.pn ++ pins)) S3 hg hm q hdbg
      · exact ld_blt (X := X.suite a (X.pn ++ pins)) S3 hg hm hv q hnn hdbg
    refine test (LM.here ?_)
    refine codeAny_handlers_suite_as ?_
    refine HandSPX.lands_againZ fl3 fun h4 fl4 up4 => ?_
    have J4 : Inv X pins σ' H' { s' with heap := h4 } := J.landed nb fl4.1 ((up.trans up3).trans up4) os ag
    obtain ⟨oe4, vs4, he4, hz4, hd4⟩ := fl4.there
    have T4 := track (o := ExH a cls d) J4 na n0 nL nC nP (exH_ok he4 hz4 hd4)
    have S4 := suite0 T4 a
    refine store_ok (X := X.suite a (X.pn ++ pins)) (v := .ref a) S4 hN hi (.inl hln) rfl (fun s5 S5 => ?_) (.inr hln)
    refine wpAny_mono ((hsu a (X.pn ++ pins)).run [] s5 _ _ _ S5 (hyes a na)) (fun f s6 hsp => ?_) (fun _ _ z => False.elim z)
    have end_ : ∀ {σ6 : L2.St} {H6 : Hp} {Q : Shared → Prop}, Inv (X.suite a (X.pn ++ pins)) [] σ6 H6 s6 → (∀ s7, Inv X pins (σ6.set i Option.none) H6 s7 → Q s7) →
        wpAny (model X.prog X.w) X.A (do bindName X.env n .none; unbindBehindTheSuite X.env n pos') (fun _ s7 => Q s7) X.xe s6 := fun {σ6 H6 Q} S6 hq => gone_ok (unsuite0 S6 ok) hN hi hln hq
    cases f with
    | next =>
      obtain ⟨σ6, H6, S6, q6⟩ := hsp
      exact end_ S6 fun s7 J7 => ⟨_, _, J7, q6⟩
    | brk =>
      obtain ⟨σ6, H6, S6, q6⟩ := hsp
      exact end_ S6 fun s7 J7 => ⟨_, _, J7, q6⟩
    | cont =>
      obtain ⟨σ6, H6, S6, q6⟩ := hsp
      exact end_ S6 fun s7 J7 => ⟨_, _, J7, q6⟩
    | ret u =>
      obtain ⟨v6, σ6, H6, S6, r6, q6⟩ := hsp
      exact end_ S6 fun s7 J7 => ⟨_, _, _, J7, r6, q6⟩
  · cases f with
    | next =>
      obtain ⟨σ', H', J', q⟩ := hsp
      exact wpAny_execs_nil ⟨σ', H', J'.ofTry ok, q⟩
    | brk =>
      obtain ⟨σ', H', J', q⟩ := hsp
      exact ⟨σ', H', J'.ofTry ok, q⟩
    | cont =>
      obtain ⟨σ', H', J', q⟩ := hsp
      exact ⟨σ', H', J'.ofTry ok, q⟩
    | ret u =>
      obtain ⟨v, σ', H', J', r, q⟩ := hsp
      exact ⟨v, σ', H', J'.ofTry ok, r, q⟩
end
end Cm

set_option linter.all false
/-! defs that raise, called by name; the first wrong name of a tree -/
namespace Cm
open PySem L2 PySem.Spec PyProof.Rows
structure ClX (P : Program) (w : World) (K : PySem.W.Frag) (mg : Str → Option Value) (base : Heap) (k : Nat) (x : Str) (sp : Sp) : Prop where
  ex : ∃ (f : Addr) (fd : FuncData) (ps : List Str), FnOk P w K mg base (L2.CX P w) k f fd ps sp ∧ mg x = some (.ref f) ∧ PySem.W.keepIn K (.ref f) = true ∧ Binds K fd ps []
section
variable {P : Program} {w : World} {K : PySem.W.Frag} {mg : Str → Option Value} {base : Heap}
theorem clX_of {x : Str} {st : Stmt} {N ps : List Str} {k : Nat} {sp : Sp} (T : At K mg x st ps) (S : FnScope N ps (defScope st))
    (len : ∀ vs H Q E, sp vs H Q E → vs.length = ps.length)
    (hb : ∀ (f : Addr) (cdv : Value) (A : Around) (outer : List Env) (s : Shared) (H : Hp) (vs : List V) (Q : VK) (E : XK),
      Room k (A.deeper (envOfC x (defScope st) s.heap.objs.size f cdv)) → sp vs H Q E →
      ∃ t, PSs (cxOf (L2.CX P w) P w K mg base N x (defScope st) f cdv A outer s H E) (defBody st) t ∧ t { nx := fun _ H' => Q .non H', rt := Q } (start N vs) H) :
    ClX P w K mg base (k + 1) x sp := by
  obtain ⟨f, fd, F, hm, b⟩ := T.ex
  exact ⟨f, fd, ps, F.okX S len (hb f), hm, F.kp, b⟩
end
section
variable {X : Cx} {j k : Nat} {x : Str} {sp : Sp} {e : Expr} {es : List Expr} {t : TA} {p pos : Pos}
/-- a call that lets nothing out -/
theorem pe_cL (c : ClX X.prog X.w X.K X.mg X.base k x sp) (hr : Room j X.A) (hk : k ≤ j) (hg : Gl X x) (ha : PA X (e :: es) t)
    (hdb : (x == ("__debug__" : Str)) = false := by decide) (he : starEach (e :: es) X.env = (false, eval e X.env) :: starEach es X.env := by rfl)
    (hpl : (backTo pos (starEach es X.env)).any (·.1) = false := by rfl) : PE X (.Call (.Name x p) (e :: es) [] pos) (tCall sp [] E0 t) := by
  obtain ⟨f, fd, ps, F, hm, kp, b⟩ := c.ex
  exact pe_call F (hr.mono hk) hg hm kp b .nil passL ha hdb he hpl
/-- a call in a try -/
theorem pe_cS {W : WX} (c : ClX X.prog X.w X.K X.mg X.base k x sp) (hr : Room j X.A) (hk : k ≤ j) (hg : Gl X x) (tk : Takes X W) (ha : PA X (e :: es) t)
    (hdb : (x == ("__debug__" : Str)) = false := by decide) (he : starEach (e :: es) X.env = (false, eval e X.env) :: starEach es X.env := by rfl)
    (hpl : (backTo pos (starEach es X.env)).any (·.1) = false := by rfl) : PE X (.Call (.Name x p) (e :: es) [] pos) (tCallS sp (WE W) t) := by
  obtain ⟨f, fd, ps, F, hm, kp, b⟩ := c.ex
  exact pe_callS F (hr.mono hk) hg hm kp b (fun σ => passAt tk σ) ha hdb he hpl
end

/-- the first text that stands a second time -/
def twice (pre : List Str) : List Str → Option Str
  | [] => none
  | x :: r => if x ∈ pre then some x else twice (pre ++ [x]) r
theorem twice_sok : ∀ (xs pre : List Str) {x : Str}, twice pre xs = some x → x ∈ xs
  | [], _, _, h => by cases h
  | y :: r, pre, x, h => by
    have h' : (if y ∈ pre then some y else twice (pre ++ [y]) r) = some x := h
    split at h'
    · cases h'
      exact List.mem_cons_self
    · exact List.mem_cons_of_mem _ (twice_sok r _ h')
mutual
/-- the first wrong name, in reading order -/
def Tr.wrong (known : List Str) : Tr → Option (Str × Str)
  | .mk h ps => match (own false h).filter (fun x => !decide (x ∈ known)) with
    | x :: _ => some ("unknown", x)
    | [] => match twice [] (held h) with
      | some x => some ("twice", x)
      | none => Tr.wrongs known h ps.length 0 ps
def Tr.wrongs (known : List Str) (h : Hd) (n : Nat) : Nat → List Tr → Option (Str × Str)
  | _, [] => none
  | i, t :: ts => match t.wrong (known ++ under h n i) with
    | some e => some e
    | none => Tr.wrongs known h n (i + 1) ts
end
mutual
theorem wrong_sok : ∀ (t : Tr) (known : List Str) (e : Str × Str), t.ok → t.wrong known = some e → sok e.1 ∧ sok e.2
  | .mk h ps, known, e, o, w => by
    have o' : hok h ps.length ∧ ps.length ≤ 11 ∧ Tr.oks ps := o
    have w' : (match (own false h).filter (fun x => !decide (x ∈ known)) with
      | x :: _ => some ("unknown", x)
      | [] => match twice [] (held h) with
        | some x => some ("twice", x)
        | none => Tr.wrongs known h ps.length 0 ps) = some e := w
    split at w'
    · rename_i x r q
      cases w'
      refine ⟨show sok "unknown" by decide +kernel, ?_⟩
      have m : x ∈ (own false h).filter (fun x => !decide (x ∈ known)) := by rw [q]; exact List.mem_cons_self
      have m2 : x ∈ (Tr.mk h ps).free false := List.mem_append_left _ (List.mem_filter.mp m).1
      exact free_sok false (.mk h ps) o x m2
    · split at w'
      · rename_i x q
        cases w'
        exact ⟨show sok "twice" by decide +kernel, held_sok o'.1 x (twice_sok _ _ q)⟩
      · exact wrongs_sok 0 ps known h ps.length e o'.2.2 w'
theorem wrongs_sok : ∀ (i : Nat) (ts : List Tr) (known : List Str) (h : Hd) (n : Nat) (e : Str × Str), Tr.oks ts → Tr.wrongs known h n i ts = some e → sok e.1 ∧ sok e.2
  | _, [], _, _, _, _, _, w => by cases w
  | i, t :: ts, known, h, n, e, o, w => by
    have w' : (match t.wrong (known ++ under h n i) with
      | some e => some e
      | none => Tr.wrongs known h n (i + 1) ts) = some e := w
    split at w'
    · rename_i e' q
      cases w'
      exact wrong_sok t _ _ o.1 q
    · exact wrongs_sok (i + 1) ts known h n e o.2 w'
end
end Cm

set_option linter.all false
/-! classes of errors with fields: their facts as one check -/
namespace Cm
open PySem L2 PySem.Spec PyProof.Rows
/-- the def within a class of the text -/
def iniS : Stmt → Stmt
  | .ClassDef _ _ _ b _ _ _ _ _ _ _ => b.getD 0 (.Pass ⟨0, 0, 0, 0⟩)
  | s => s
theorem two_of {α : Type} {xs : List α} (h : xs.length = 2) : ∃ x y, xs = [x, y] := by
  cases xs with
  | nil => simp at h
  | cons a r =>
    obtain ⟨b, rfl⟩ := one_of (show r.length = 1 by simpa using h)
    exact ⟨a, b, rfl⟩
def excB (K : PySem.W.Frag) (C : Addr) : Bool :=
  PySem.W.findIn K (.ref C) "__getattribute__" == some (some (.builtin "BaseException.__getattribute__")) && (PySem.W.findIn K (.ref C) "__getattr__" == some Option.none && (PySem.W.subIn K (.ref C) (.type "BaseException") == some true && (PySem.W.hasDictIn K C &&
    (PySem.W.findIn K (.ref C) "__class__" == some (some (.builtin "object.__class__")) && (PySem.W.specialIn K (.builtin "object.__class__") "__get__" == some (some (.builtin "getset_descriptor.__get__")) && (PySem.W.takesIn K (.builtin "object.__class__") == some true &&
      (PySem.W.mroIn K C (.type "object") == some true && (PySem.W.typeIn K (.ref C) == some (.type "type") && PySem.W.keepIn K (.ref C)))))))))
def clsB (K : PySem.W.Frag) (C fI : Addr) (fl : List Str) : Bool :=
  excB K C && (PySem.W.findIn K (.ref C) "__setattr__" == some (some (.builtin "object.__setattr__")) && ((fl.all fun f => PySem.W.findIn K (.ref C) f == some Option.none) && (PySem.W.typeIn K (.ref fI) == some (.type "function") && PySem.W.keepIn K (.ref fI))))
structure ExcF (K : PySem.W.Frag) (C : Addr) : Prop where
  ec : ExcC K C
  xf : XfC K C
  ty : PySem.W.typeIn K (.ref C) = some (.type "type")
  kp : PySem.W.keepIn K (.ref C) = true
theorem excB_ok {K : PySem.W.Frag} {C : Addr} (h : excB K C = true) : ExcF K C := by
  simp only [excB, Bool.and_eq_true, beq_iff_eq] at h
  obtain ⟨h1, h2, h3, h4, h5, h6, h7, h8, h9, h10⟩ := h
  exact ⟨⟨h1, h2, h3, h4, h5, h6, h7, h8⟩, ⟨h1, h2, h3, h4⟩, h9, h10⟩
theorem clsB_exc {K : PySem.W.Frag} {C fI : Addr} {fl : List Str} (h : clsB K C fI fl = true) : ExcF K C := by
  simp only [clsB, Bool.and_eq_true] at h
  exact excB_ok h.1
theorem clsB_kI {K : PySem.W.Frag} {C fI : Addr} {fl : List Str} (h : clsB K C fI fl = true) : PySem.W.keepIn K (.ref fI) = true := by
  simp only [clsB, Bool.and_eq_true, beq_iff_eq] at h
  exact h.2.2.2.2
theorem mk_of {P : Program} {w : World} {K : PySem.W.Frag} {h : Heap} {mg : Str → Option Value} {base : Heap} {C fI R : Addr} {x : Str} {fl ps : List Str} {fd : FuncData} (X : K.In h) (G : h.Ns mainGlobals mg) (a : PySem.W.nsIn K mainGlobals x = some (some (.ref C)))
    {nm q : Str} {N : Addr} {bs : List Value} {sn : List Str} {sub : List Value} {ab : Bool} {col : Option Bool} {dd : Option Addr} {m0 m1 m2 m3 m5 : Option Value}
    (xl : K.lookup C = some (excClassObj nm q C N bs [.ref R, .type "ValueError", .type "Exception", .type "BaseException", .type "object"] true sn sub ab col dd m0 m1 m2 m3 m5 "ValueError.__new__"))
    (i : PySem.W.findIn K (.ref C) "__init__" = some (some (.ref fI))) (o : clsB K C fI fl = true) (F : FnOk P w K mg base CX0 1 fI fd ps (spI K fl)) (b : Binds K fd ps []) : Mk P w K mg base C x fl := by
  simp only [clsB, Bool.and_eq_true, beq_iff_eq, List.all_eq_true] at o
  obtain ⟨o1, o2, o3, o4, o5⟩ := o
  have E := excB_ok o1
  refine ⟨⟨⟨nm, q, N, bs, _, sn, sub, ab, col, dd, m0, m1, m2, m3, m5, xl, ?_⟩, o2, E.ec.hs, E.ty, E.kp⟩, PySem.W.mg_of X G a, E.xf, E.ec, o3, fI, fd, ps, i, o4, F, b⟩
  show PySem.HandSPX.refsVE [.type "ValueError", .type "Exception", .type "BaseException", .type "object"] = true
  decide +kernel
/-- caught by its own name -/
theorem exm_own {K : PySem.W.Frag} {C fI : Addr} {fl : List Str} (o : clsB K C fI fl = true) (s : PySem.W.subIn K (.ref C) (.ref C) = some true) : PySem.W.exmOne K (.ref C) (.ref C) = some true := by
  have E := clsB_exc o
  exact PySem.W.exm_ref E.ec.hs E.ec.hd E.ty s
end Cm

set_option linter.all false
/-! displays of tuples out of written texts, written numbers and names, as one step -/
namespace Cm
open PySem L2 PySem.Spec PyProof.Rows
inductive DX where
  | str (x : Str)
  | int (i : Int)
  | slot (i : Nat)
  | tup (xs : List DX)
mutual
def DX.data (ρ : Nat → PyData) : DX → PyData
  | .str x => .str x
  | .int i => .int i
  | .slot i => ρ i
  | .tup xs => .tuple (DX.datas ρ xs)
def DX.datas (ρ : Nat → PyData) : List DX → List PyData
  | [] => []
  | x :: xs => x.data ρ :: DX.datas ρ xs
end
mutual
def DX.slots : DX → List Nat
  | .str _ => []
  | .int _ => []
  | .slot i => [i]
  | .tup xs => DX.slotss xs
def DX.slotss : List DX → List Nat
  | [] => []
  | x :: xs => x.slots ++ DX.slotss xs
end
/-- the names hold such data -/
def Has (K : PySem.W.Frag) (ρ : Nat → PyData) (σ : L2.St) (H : Hp) : List Nat → Prop
  | [] => True
  | i :: r => (∃ v, σ[i]? = some (some v) ∧ Dp K H v (ρ i)) ∧ Has K ρ σ H r
theorem Has.same {K : PySem.W.Frag} {ρ : Nat → PyData} {σ : L2.St} {H H' : Hp} (s : Same H H') : ∀ {l : List Nat}, Has K ρ σ H l → Has K ρ σ H' l
  | [], _ => trivial
  | _ :: _, ⟨⟨v, e, h⟩, r⟩ => ⟨⟨v, e, dp_same s _ _ h⟩, Has.same s r⟩
theorem Has.app {K : PySem.W.Frag} {ρ : Nat → PyData} {σ : L2.St} {H : Hp} : ∀ {l m : List Nat}, Has K ρ σ H (l ++ m) → Has K ρ σ H l ∧ Has K ρ σ H m
  | [], _, h => ⟨trivial, h⟩
  | _ :: _, _, ⟨a, r⟩ => ⟨⟨a, (Has.app r).1⟩, (Has.app r).2⟩
def tD (K : PySem.W.Frag) (d : DX) : TE := fun σ H Q => ∃ ρ : Nat → PyData, Has K ρ σ H d.slots ∧ ∀ v H', Same H H' → Dp K H' v (d.data ρ) → Q v H'
def tDs (K : PySem.W.Frag) (ds : List DX) : TA := fun σ H Q => ∃ ρ : Nat → PyData, Has K ρ σ H (DX.slotss ds) ∧ ∀ vs H', Same H H' → DpAll K H' vs (DX.datas ρ ds) → Q vs H'
section
variable {X : Cx} {K : PySem.W.Frag}
theorem pd_str {x : Str} {j : Nat} {pos : Pos} : PE X (.Constant (.str x) j pos) (tD K (.str x)) :=
  ⟨fun pins s σ H Q I ⟨ρ, _, k⟩ => pe_str.run pins s σ H Q I (k _ H (Same.refl H) (.str x))⟩
theorem pd_int {i : Int} {j : Nat} {pos : Pos} : PE X (.Constant (.int i) j pos) (tD K (.int i)) :=
  ⟨fun pins s σ H Q I ⟨ρ, _, k⟩ => pe_int.run pins s σ H Q I (k _ H (Same.refl H) (.int i))⟩
theorem pd_slot {i : Nat} {e : Expr} (h : PE X e (tVar i)) : PE X e (tD K (.slot i)) :=
  ⟨fun pins s σ H Q I ⟨ρ, ⟨⟨v, ev, hv⟩, _⟩, k⟩ => h.run pins s σ H Q I ⟨v, ev, k v H (Same.refl H) hv⟩⟩
theorem pd_nil : PA X [] (tDs K []) :=
  ⟨fun pos pins s σ H Q I ⟨ρ, _, k⟩ => pa_nil.run pos pins s σ H Q I (k [] H (Same.refl H) .nil)⟩
theorem pd_cons {e : Expr} {es : List Expr} {d : DX} {ds : List DX} (h : PE X e (tD K d)) (r : PA X es (tDs K ds)) (hs : starEach (e :: es) X.env = (false, eval e X.env) :: starEach es X.env := by rfl) : PA X (e :: es) (tDs K (d :: ds)) :=
  ⟨fun pos pins s σ H Q I ⟨ρ, hh, k⟩ => (pa_cons h r hs).run pos pins s σ H Q I
    ⟨ρ, (Has.app hh).1, fun v H1 s1 hv => ⟨ρ, (Has.app hh).2.same s1, fun vs H2 s2 hvs => k (v :: vs) H2 (s1.trans s2) (.cons (dp_same s2 _ _ hv) hvs)⟩⟩⟩
theorem datas_len {ρ : Nat → PyData} : ∀ ds : List DX, (DX.datas ρ ds).length = ds.length
  | [] => rfl
  | d :: ds => congrArg (· + 1) (datas_len ds)
theorem pd_tup {es : List Expr} {ds : List DX} {k : Nat} {pos : Pos} (h : PA X es (tDs K ds)) (hl : ds.length ≤ 1000 := by decide) : PE X (.Tuple es k pos) (tD K (.tup ds)) :=
  ⟨fun pins s σ H Q I ⟨ρ, hh, k⟩ => (pe_tup h).run pins s σ H Q I ⟨ρ, hh, fun vs H1 s1 hvs => ⟨by
      have e := DpAll.len hvs
      rw [datas_len] at e
      rw [e]
      exact Nat.le_trans hl (by decide), fun p hp => k _ _ (s1.trans (same_new hp)) (.tup (.inl (.inl upd_same)) (dps_same (same_new hp) _ _ hvs))⟩⟩⟩
end
theorem iteEq {x y : Str} {A B : Prop} (h : x = y) (a : A) : if decide (V.str x = V.str y) = true then A else B := by
  rw [decS, decide_eq_true h]
  exact iteT a
theorem iteNe {x y : Str} {A B : Prop} (h : ¬ x = y) (b : B) : if decide (V.str x = V.str y) = true then A else B := by
  rw [decS, decide_eq_false h]
  exact iteF b
theorem iteIn {x : Str} {ws : List Str} {A B : Prop} (h : x ∈ ws) (a : A) : if inV (.str x) (ws.map V.str) = true then A else B := by
  rw [in_words, decide_eq_true h]
  exact iteT a
theorem iteNi {x : Str} {ws : List Str} {A B : Prop} (h : ¬ x ∈ ws) (b : B) : if inV (.str x) (ws.map V.str) = true then A else B := by
  rw [in_words, decide_eq_false h]
  exact iteF b
theorem mem_str {ws : List Str} {v : V} (h : v ∈ ws.map V.str) : ∃ w, w ∈ ws ∧ v = .str w := by
  obtain ⟨w, hw, rfl⟩ := List.mem_map.mp h
  exact ⟨w, hw, rfl⟩
end Cm

set_option linter.all false
/-! displays of tuples whose parts may draw, as one step -/
namespace Cm
open PySem L2 PySem.Spec PyProof.Rows
inductive GX where
  | str (x : Str)
  | int (i : Int)
  | slot (i : Nat)
  | ex (n : Nat) (te : TE)
  | tup (xs : List GX)
mutual
def GX.data (ρ τ : Nat → PyData) : GX → PyData
  | .str x => .str x
  | .int i => .int i
  | .slot i => ρ i
  | .ex n _ => τ n
  | .tup xs => .tuple (GX.datas ρ τ xs)
def GX.datas (ρ τ : Nat → PyData) : List GX → List PyData
  | [] => []
  | x :: xs => x.data ρ τ :: GX.datas ρ τ xs
end
mutual
def GX.slots : GX → List Nat
  | .slot i => [i]
  | .tup xs => GX.slotss xs
  | _ => []
def GX.slotss : List GX → List Nat
  | [] => []
  | x :: xs => x.slots ++ GX.slotss xs
end
mutual
def GX.exs : GX → List (Nat × TE)
  | .ex n te => [(n, te)]
  | .tup xs => GX.exss xs
  | _ => []
def GX.exss : List GX → List (Nat × TE)
  | [] => []
  | x :: xs => x.exs ++ GX.exss xs
end
/-- the names hold such data, without lists -/
def HasF (K : PySem.W.Frag) (ρ : Nat → PyData) (σ : L2.St) (H : Hp) : List Nat → Prop
  | [] => True
  | i :: r => (∃ v, σ[i]? = some (some v) ∧ Dp K H v (ρ i) ∧ flatD (ρ i) = true) ∧ HasF K ρ σ H r
theorem HasF.kp {K : PySem.W.Frag} {M : Addr → Prop} {ρ : Nat → PyData} {σ : L2.St} {H H' : Hp} (s : Kp M H H') : ∀ {l : List Nat}, HasF K ρ σ H l → HasF K ρ σ H' l
  | [], _ => trivial
  | _ :: _, ⟨⟨v, e, h, f⟩, r⟩ => ⟨⟨v, e, dp_keep (fun _ _ q => s.tup q) _ _ f h, f⟩, HasF.kp s r⟩
theorem HasF.app {K : PySem.W.Frag} {ρ : Nat → PyData} {σ : L2.St} {H : Hp} : ∀ {l m : List Nat}, HasF K ρ σ H (l ++ m) → HasF K ρ σ H l ∧ HasF K ρ σ H m
  | [], _, h => ⟨trivial, h⟩
  | _ :: _, _, ⟨a, r⟩ => ⟨⟨a, (HasF.app r).1⟩, (HasF.app r).2⟩
/-- each part that draws gives data that is good, wherever it is asked -/
def AllE (K : PySem.W.Frag) (h c : Addr) (S : Nat → PyData → Prop) (σ : L2.St) (H : Hp) : List (Nat × TE) → Prop
  | [] => True
  | e :: r => (∀ H1, Kh h H H1 → Hand H1 h c → e.2 σ H1 fun x H2 => Kh h H1 H2 ∧ Hand H2 h c ∧ ∃ d, S e.1 d ∧ flatD d = true ∧ Dp K H2 x d) ∧ AllE K h c S σ H r
theorem AllE.kp {K : PySem.W.Frag} {h c : Addr} {S : Nat → PyData → Prop} {σ : L2.St} {H H' : Hp} (s : Kh h H H') : ∀ {l : List (Nat × TE)}, AllE K h c S σ H l → AllE K h c S σ H' l
  | [], _ => trivial
  | _ :: _, ⟨a, r⟩ => ⟨fun H1 k x => a H1 (s.trans k) x, AllE.kp s r⟩
theorem AllE.app {K : PySem.W.Frag} {h c : Addr} {S : Nat → PyData → Prop} {σ : L2.St} {H : Hp} : ∀ {l m : List (Nat × TE)}, AllE K h c S σ H (l ++ m) → AllE K h c S σ H l ∧ AllE K h c S σ H m
  | [], _, q => ⟨trivial, q⟩
  | _ :: _, _, ⟨a, r⟩ => ⟨⟨a, (AllE.app r).1⟩, (AllE.app r).2⟩
/-- what was drawn -/
def AllS (S : Nat → PyData → Prop) (τ : Nat → PyData) : List (Nat × TE) → Prop
  | [] => True
  | e :: r => S e.1 (τ e.1) ∧ AllS S τ r
def nums (l : List (Nat × TE)) : List Nat := l.map (·.1)
mutual
theorem flat_gdata {K : PySem.W.Frag} {ρ τ : Nat → PyData} {σ : L2.St} {H : Hp} : ∀ (d : GX), HasF K ρ σ H d.slots → (∀ n, flatD (τ n) = true) → flatD (d.data ρ τ) = true
  | .str _, _, _ => rfl
  | .int _, _, _ => rfl
  | .slot _, ⟨⟨_, _, _, f⟩, _⟩, _ => f
  | .ex n _, _, t => t n
  | .tup xs, h, t => by
    show flatDs (GX.datas ρ τ xs) = true
    exact flat_gdatas xs h t
theorem flat_gdatas {K : PySem.W.Frag} {ρ τ : Nat → PyData} {σ : L2.St} {H : Hp} : ∀ (ds : List GX), HasF K ρ σ H (GX.slotss ds) → (∀ n, flatD (τ n) = true) → flatDs (GX.datas ρ τ ds) = true
  | [], _, _ => rfl
  | d :: ds, h, t => by
    have h1 := flat_gdata d h.app.1 t
    have h2 := flat_gdatas ds h.app.2 t
    show (flatD (d.data ρ τ) && flatDs (GX.datas ρ τ ds)) = true
    rw [h1, h2]
    rfl
end
/-- the data of parts with numbers of their own -/
def put (τ : Nat → PyData) (n : Nat) (d : PyData) : Nat → PyData := fun m => if m = n then d else τ m
mutual
theorem data_eq {ρ τ τ' : Nat → PyData} : ∀ (d : GX), (∀ n ∈ nums d.exs, τ n = τ' n) → d.data ρ τ = d.data ρ τ'
  | .str _, _ => rfl
  | .int _, _ => rfl
  | .slot _, _ => rfl
  | .ex n te, h => h n List.mem_cons_self
  | .tup xs, h => congrArg PyData.tuple (datas_eq xs h)
theorem datas_eq {ρ τ τ' : Nat → PyData} : ∀ (ds : List GX), (∀ n ∈ nums (GX.exss ds), τ n = τ' n) → GX.datas ρ τ ds = GX.datas ρ τ' ds
  | [], _ => rfl
  | d :: ds, h => by
    have h' : ∀ n ∈ nums (d.exs ++ GX.exss ds), τ n = τ' n := h
    unfold nums at h'
    rw [List.map_append] at h'
    have e1 := data_eq (ρ := ρ) (τ := τ) (τ' := τ') d fun n m => h' n (List.mem_append_left _ m)
    have e2 := datas_eq (ρ := ρ) (τ := τ) (τ' := τ') ds fun n m => h' n (List.mem_append_right _ m)
    show d.data ρ τ :: GX.datas ρ τ ds = d.data ρ τ' :: GX.datas ρ τ' ds
    rw [e1, e2]
end
theorem alls_eq {S : Nat → PyData → Prop} {τ τ' : Nat → PyData} : ∀ {l : List (Nat × TE)}, (∀ n ∈ nums l, τ n = τ' n) → AllS S τ l → AllS S τ' l
  | [], _, _ => trivial
  | e :: r, h, ⟨a, b⟩ => ⟨by rw [← h e.1 List.mem_cons_self]; exact a, alls_eq (fun n m => h n (List.mem_cons_of_mem _ m)) b⟩
theorem alls_app {S : Nat → PyData → Prop} {τ : Nat → PyData} : ∀ {l m : List (Nat × TE)}, AllS S τ l → AllS S τ m → AllS S τ (l ++ m)
  | [], _, _, q => q
  | _ :: _, _, ⟨a, r⟩, q => ⟨a, alls_app r q⟩
def tG (K : PySem.W.Frag) (d : GX) : TE := fun σ H Q => ∃ (h c : Addr) (ρ : Nat → PyData) (S : Nat → PyData → Prop), Hand H h c ∧ HasF K ρ σ H d.slots ∧ AllE K h c S σ H d.exs ∧
  ∀ v H' τ, Kh h H H' → Hand H' h c → AllS S τ d.exs → (∀ n, flatD (τ n) = true) → Dp K H' v (d.data ρ τ) → Q v H'
def tGs (K : PySem.W.Frag) (ds : List GX) : TA := fun σ H Q => ∃ (h c : Addr) (ρ : Nat → PyData) (S : Nat → PyData → Prop), Hand H h c ∧ HasF K ρ σ H (GX.slotss ds) ∧ AllE K h c S σ H (GX.exss ds) ∧
  ∀ vs H' τ, Kh h H H' → Hand H' h c → AllS S τ (GX.exss ds) → (∀ n, flatD (τ n) = true) → DpAll K H' vs (GX.datas ρ τ ds) → Q vs H'
section
variable {X : Cx} {K : PySem.W.Frag}
theorem pgx_str {x : Str} {j : Nat} {pos : Pos} : PE X (.Constant (.str x) j pos) (tG K (.str x)) :=
  ⟨fun pins s σ H Q I ⟨h, c, ρ, S, hh, _, _, k⟩ => pe_str.run pins s σ H Q I (k _ H (fun _ => .none) hh.kr hh trivial (fun _ => rfl) (.str x))⟩
theorem pgx_int {i : Int} {j : Nat} {pos : Pos} : PE X (.Constant (.int i) j pos) (tG K (.int i)) :=
  ⟨fun pins s σ H Q I ⟨h, c, ρ, S, hh, _, _, k⟩ => pe_int.run pins s σ H Q I (k _ H (fun _ => .none) hh.kr hh trivial (fun _ => rfl) (.int i))⟩
theorem pgx_slot {i : Nat} {e : Expr} (h : PE X e (tVar i)) : PE X e (tG K (.slot i)) :=
  ⟨fun pins s σ H Q I ⟨h', c, ρ, S, hh, ⟨⟨v, ev, hv, _⟩, _⟩, _, k⟩ => h.run pins s σ H Q I ⟨v, ev, k v H (fun _ => .none) hh.kr hh trivial (fun _ => rfl) hv⟩⟩
theorem pgx_ex {e : Expr} {te : TE} (n : Nat) (he : PE X e te) : PE X e (tG K (.ex n te)) :=
  ⟨fun pins s σ H Q I ⟨h, c, ρ, S, hh, _, a, k⟩ => wpAny_mono (he.run pins s σ H _ I (a.1 H hh.kr hh)) (fun u s1 ⟨x, H2, I2, r, ⟨k2, hh2, d, sd, fd, hd⟩⟩ =>
    ⟨x, H2, I2, r, k x H2 (fun _ => d) k2 hh2 ⟨sd, trivial⟩ (fun _ => fd) hd⟩) (fun _ _ z => z)⟩
theorem pgx_nil : PA X [] (tGs K []) :=
  ⟨fun pos pins s σ H Q I ⟨h, c, ρ, S, hh, _, _, k⟩ => pa_nil.run pos pins s σ H Q I (k [] H (fun _ => .none) hh.kr hh trivial (fun _ => rfl) .nil)⟩
/-- the numbers of the first part are not those of the others -/
def apart (l m : List (Nat × TE)) : Bool := (nums l).all fun n => !(nums m).contains n
theorem pgx_cons {e : Expr} {es : List Expr} {d : GX} {ds : List GX} (hd : PE X e (tG K d)) (r : PA X es (tGs K ds)) (ap : apart d.exs (GX.exss ds) = true := by rfl)
    (hs : starEach (e :: es) X.env = (false, eval e X.env) :: starEach es X.env := by rfl) : PA X (e :: es) (tGs K (d :: ds)) :=
  ⟨fun pos pins s σ H Q I ⟨h, c, ρ, S, hh, hf, ha, k⟩ => (pa_cons hd r hs).run pos pins s σ H Q I
    ⟨h, c, ρ, S, hh, hf.app.1, ha.app.1, fun v H1 τ1 k1 hh1 a1 f1 hv => ⟨h, c, ρ, S, hh1, hf.app.2.kp k1, ha.app.2.kp k1, fun vs H2 τ2 k2 hh2 a2 f2 hvs => by
      have no : ∀ n ∈ nums d.exs, ¬ n ∈ nums (GX.exss ds) := fun n m z => by
        have := List.all_eq_true.mp ap n m
        rw [List.contains_iff_mem.mpr z] at this
        cases this
      let τ : Nat → PyData := fun n => if n ∈ nums d.exs then τ1 n else τ2 n
      have e1 : ∀ n ∈ nums d.exs, τ1 n = τ n := fun n m => (if_pos m).symm
      have e2 : ∀ n ∈ nums (GX.exss ds), τ2 n = τ n := fun n m => (if_neg (fun z => no n z m)).symm
      refine k (v :: vs) H2 τ (k1.trans k2) hh2 (alls_app (alls_eq e1 a1) (alls_eq e2 a2)) (fun n => ?_) ?_
      · show flatD (if n ∈ nums d.exs then τ1 n else τ2 n) = true
        split
        · exact f1 n
        · exact f2 n
      · show DpAll K H2 (v :: vs) (d.data ρ τ :: GX.datas ρ τ ds)
        rw [← data_eq d e1, ← datas_eq ds e2]
        exact .cons (dp_keep (fun _ _ q => k2.tup q) _ _ (flat_gdata d hf.app.1 f1) hv) hvs⟩⟩⟩
theorem gdatas_len {ρ τ : Nat → PyData} : ∀ ds : List GX, (GX.datas ρ τ ds).length = ds.length
  | [] => rfl
  | d :: ds => congrArg (· + 1) (gdatas_len ds)
theorem pgx_tup {es : List Expr} {ds : List GX} {k : Nat} {pos : Pos} (h : PA X es (tGs K ds)) (hl : ds.length ≤ 1000 := by exact Nat.le_of_ble_eq_true rfl) : PE X (.Tuple es k pos) (tG K (.tup ds)) :=
  ⟨fun pins s σ H Q I ⟨h', c, ρ, S, hh, hf, ha, k⟩ => (pe_tup h).run pins s σ H Q I ⟨h', c, ρ, S, hh, hf, ha, fun vs H1 τ k1 hh1 a1 f1 hvs => ⟨by
      have e := DpAll.len hvs
      rw [gdatas_len] at e
      rw [e]
      exact Nat.le_trans hl (by decide), fun p hp => k _ _ τ (k1.trans (hh1.kh (same_new hp))) (hh1.same (same_new hp)) a1 f1 (.tup (.inl (.inl upd_same)) (dps_same (same_new hp) _ _ hvs))⟩⟩⟩
end
end Cm

set_option linter.all false
/-! classes of the text: made by name, == by their own def with either answer; how many unlike texts a list has -/
namespace Cm
open PySem L2 PySem.Spec PyProof.Rows
/-- a class of the text and what its making promises -/
structure MkC (P : Program) (w : World) (K : PySem.W.Frag) (mg : Str → Option Value) (base : Heap) (k : Nat) (x : Str) (C : Addr) (sp : Sp) : Prop where
  ex : ∃ (f : Addr) (fd : FuncData) (ps : List Str), FnOk P w K mg base CX0 k f fd ps sp ∧ L2.Mk K C f ∧ mg x = some (.ref C) ∧ Binds K fd ps []
section
variable {X : Cx} {j k : Nat} {x : Str} {C : Addr} {sp : Sp} {e : Expr} {es : List Expr} {t : TA} {p pos : Pos}
theorem pe_mkC (c : MkC X.prog X.w X.K X.mg X.base k x C sp) (hr : Room j X.A) (hk : k + 1 ≤ j) (hg : Gl X x) (ha : PA X (e :: es) t)
    (hdb : (x == ("__debug__" : Str)) = false := by decide) (he : starEach (e :: es) X.env = (false, eval e X.env) :: starEach es X.env := by rfl)
    (hpl : (backTo pos (starEach es X.env)).any (·.1) = false := by rfl) : PE X (.Call (.Name x p) (e :: es) [] pos) (tMake C sp [] E0 t) := by
  obtain ⟨f, fd, ps, F, M, hm, b⟩ := c.ex
  exact pe_make M F (hr.mono hk) hg hm b .nil pass0 ha hdb he hpl
end
/-- the own == of a class -/
structure EqC (P : Program) (w : World) (K : PySem.W.Frag) (mg : Str → Option Value) (base : Heap) (k : Nat) (C : Addr) (sp : Sp) : Prop where
  ex : ∃ (f : Addr) (fd : FuncData) (ps : List Str), FnOk P w K mg base CX0 k f fd ps sp ∧ PySem.W.findIn K (.ref C) "__eq__" = some (some (.ref f)) ∧ PySem.W.isFn K (.ref f) = true ∧ Binds K fd ps []
def rEqO (C : Addr) (sp : Sp) : R2 := fun x y H Q => ∃ (a b dx dy : Addr) (fs gs : List (Str × V)), x = .ref a ∧ y = .ref b ∧ H a = some (.ins C dx fs) ∧ H b = some (.ins C dy gs) ∧ sp [.ref a, .ref b] H (fun v H' => ∃ k, v = .bl k ∧ Q (.bl k) H') E0
theorem op_eqO {X : Cx} {j k : Nat} {C : Addr} {sp : Sp} (c : EqC X.prog X.w X.K X.mg X.base k C sp) (hr : Room j X.A) (hk : k ≤ j) : OpR X (compareOp .Eq) (rEqO C sp) := by
  obtain ⟨f, fd, ps, F, hs, hf, hb⟩ := c.ex
  intro pins s σ H x y v u Q I rx ry hq
  obtain ⟨a, b, dx, dy, fs, gs, rfl, rfl, ha, hb', hsp⟩ := hq
  cases rx
  cases ry
  obtain ⟨mA, J, _⟩ := ins_get I.hok ha
  obtain ⟨mB, J', _⟩ := ins_get I.hok hb'
  obtain ⟨od, J, _⟩ := J.look
  obtain ⟨od', J', _⟩ := J'.look
  obtain ⟨m, hF⟩ := I.fr
  show wpAny (model X.prog X.w) X.A (richCompare .Eq (.ref a) (.ref b)) (EP X pins σ Q) X.xe s
  refine PySem.W.cmp_K (op := .Eq) (tb := .ref C) hr.units0 hF I.ok.mod.kin J J'.type (by simp [PySem.W.notFirst]) hs hf ?_
  refine wpAny_mono (run_fn (us := [.ref a, .ref b]) (vs := [.ref a, .ref b]) F (hr.mono hk) hb .nil pass0 I (.cons rfl (.cons rfl .nil)) hsp) (fun r s' hz => ?_) fun _ _ z => z
  obtain ⟨z, H', I', rz, kk, ez, q⟩ := hz
  subst ez
  cases rz
  exact ⟨.bl kk, H', I', rfl, q⟩
theorem ko_eqO {X : Cx} {P : Program} {w : World} {K : PySem.W.Frag} {mg : Str → Option Value} {base : Heap} {j k : Nat} {C : Addr} {sp : Sp} (c : EqC P w K mg base k C sp) (hr : Room j X.A) (hk : k ≤ j)
    (h1 : X.prog = P := by rfl) (h2 : X.w = w := by rfl) (h3 : X.K = K := by rfl) (h4 : X.mg = mg := by rfl) (h5 : X.base = base := by rfl) : OpR X (compareOp .Eq) (rEqO C sp) := by
  subst h1 h2 h3 h4 h5
  exact op_eqO c hr hk
/-! ### unlike items, in the order of their first standing -/
def nub {α : Type} [DecidableEq α] (ys : List α) : List α → List α
  | [] => ys
  | x :: r => nub (if x ∈ ys then ys else ys ++ [x]) r
theorem nub_snoc {α : Type} [DecidableEq α] (x : α) : ∀ (l ys : List α), nub ys (l ++ [x]) = if x ∈ nub ys l then nub ys l else nub ys l ++ [x]
  | [], ys => rfl
  | y :: l, ys => nub_snoc x l _
theorem nub_mem {α : Type} [DecidableEq α] (x : α) : ∀ (l ys : List α), x ∈ nub ys l ↔ x ∈ ys ∨ x ∈ l
  | [], ys => by simp [nub]
  | y :: l, ys => by
    show x ∈ nub (if y ∈ ys then ys else ys ++ [y]) l ↔ _
    rw [nub_mem x l]
    by_cases h : y ∈ ys
    · rw [if_pos h, List.mem_cons]
      constructor
      · rintro (q | q)
        · exact .inl q
        · exact .inr (.inr q)
      · rintro (q | rfl | q)
        · exact .inl q
        · exact .inl h
        · exact .inr q
    · rw [if_neg h, List.mem_append, List.mem_singleton, List.mem_cons, or_assoc]
theorem nub_map {α β : Type} [DecidableEq α] [DecidableEq β] (f : α → β) (P : α → Prop) (hf : ∀ a b, P a → P b → f a = f b → a = b) : ∀ (l ys : List α), (∀ a ∈ ys, P a) → (∀ a ∈ l, P a) → nub (ys.map f) (l.map f) = (nub ys l).map f
  | [], _, _, _ => rfl
  | x :: l, ys, h1, h2 => by
    show nub (if f x ∈ ys.map f then ys.map f else ys.map f ++ [f x]) (l.map f) = (nub (if x ∈ ys then ys else ys ++ [x]) l).map f
    have hx := h2 x List.mem_cons_self
    have hl : ∀ a ∈ l, P a := fun a m => h2 a (List.mem_cons_of_mem _ m)
    by_cases h : x ∈ ys
    · rw [if_pos h, if_pos (List.mem_map_of_mem h)]
      exact nub_map f P hf l ys h1 hl
    · have hn : ¬ f x ∈ ys.map f := fun m => by
        obtain ⟨y, hy, e⟩ := List.mem_map.mp m
        exact h (hf y x (h1 y hy) hx e ▸ hy)
      rw [if_neg h, if_neg hn, ← nub_map f P hf l (ys ++ [x]) (fun a m => by
        rcases List.mem_append.mp m with m | m
        · exact h1 a m
        · rw [List.mem_singleton] at m
          subst m
          exact hx) hl, List.map_append]
      rfl
theorem nub_len {α : Type} [DecidableEq α] : ∀ (l ys : List α), (nub ys l).length ≤ ys.length + l.length
  | [], _ => Nat.le_refl _
  | x :: l, ys => by
    have h := nub_len l (if x ∈ ys then ys else ys ++ [x])
    show (nub (if x ∈ ys then ys else ys ++ [x]) l).length ≤ _
    by_cases q : x ∈ ys
    · rw [if_pos q] at h ⊢
      rw [List.length_cons]
      omega
    · rw [if_neg q, List.length_append] at h
      rw [if_neg q, List.length_cons]
      have : [x].length = 1 := rfl
      omega
theorem take_snoc {α : Type} {l : List α} {i : Nat} {x : α} (h : l[i]? = some x) : l.take (i + 1) = l.take i ++ [x] := by
  rw [List.take_add_one, h]
  rfl
theorem mem_step {α : Type} [DecidableEq α] (x z : α) (l : List α) : (decide (z ∈ l) || decide (z = x)) = decide (z ∈ if x ∈ l then l else l ++ [x]) := by
  by_cases q : x ∈ l
  · rw [if_pos q]
    by_cases e : z = x
    · subst e
      simp [q]
    · simp [e]
  · rw [if_neg q]
    simp [List.mem_append]
theorem len_step {α : Type} [DecidableEq α] (x : α) (l : List α) : (if decide (x ∈ l) = true then l.length else l.length + 1) = (if x ∈ l then l else l ++ [x]).length := by
  by_cases q : x ∈ l
  · rw [if_pos q, if_pos (decide_eq_true q)]
  · rw [if_neg q, if_neg (by simp [q]), List.length_append]
    rfl
/-! ### set(texts): any number of texts, some of them alike -/
section
variable {prog : Program} {w : World} {A : Around} {R : Result → Shared → Prop} {I : Addr} {fp wr : List Addr} {G : Array GenState → Array GenState → Prop} {n : Nat} {P : Nat → Value → Prop} {St : Nat → Shared → Prop}
theorem loop_texts (W : WalksS prog w A.in1 I fp wr G n P St) (S : Addr) (hSf : S ∉ fp) (xs : List Str) (hsz : xs.length = n) (hn1 : n ≤ 4000)
    (hval : ∀ i v, P i v → ∃ t, v = .str (xs.getD i Str.empty) t) :
    ∀ (k i : Nat) (s : Shared), n - i = k → i ≤ n → St i s →
      s.heap.SetOf (PySem.strKind prog w) S (fun z => decide (z ∈ nub [] (xs.take i))) (nub [] (xs.take i)).length →
      (∀ s', Moved (S :: wr) G s s' → s'.heap.SetOf (PySem.strKind prog w) S (fun z => decide (z ∈ nub [] (xs.take n))) (nub [] (xs.take n)).length → R (.ok (.ret .none)) s') →
      codeAny (model prog w) A (.builtin "set.update.loop" ⟨[.ref S, .ref I], []⟩) R s := by
  have hSw : S ∉ wr := fun h => hSf (W.sub _ h)
  have hsub : ∀ b ∈ wr, b ∈ S :: wr := fun b hb => List.mem_cons_of_mem _ hb
  have keep : ∀ {i : Nat} {s s' : Shared}, Moved wr G s s' → s.heap.SetOf (PySem.strKind prog w) S (fun z => decide (z ∈ nub [] (xs.take i))) (nub [] (xs.take i)).length → s'.heap.SetOf (PySem.strKind prog w) S (fun z => decide (z ∈ nub [] (xs.take i))) (nub [] (xs.take i)).length := fun hm hS => by
    obtain ⟨o, es, ep, tb, ho, more⟩ := hS
    exact ⟨o, es, ep, tb, hm.heap S _ hSw ho, more⟩
  intro k
  induction k with
  | zero =>
    intro i s hk hi hst hS hR
    obtain rfl : i = n := by omega
    refine codeAny_builtin PyProof.Rows.F.entry_set_update_loop ?_
    rw [Around.under_plainId PyProof.Rows.F.plain_set_update_loop _]
    show wpAny _ A.in1 (pyNext (.ref I) >>= _) _ _ s
    refine wpAny_bind (W.done s _ _ hst fun s' hm => ?_)
    show wpAny _ A.in1 (ret Value.none) _ _ s'
    exact wpAny_pure (hR s' (hm.mono hsub) (keep hm hS))
  | succ k ih =>
    intro i s hk hi hst hS hR
    have hlt : i < n := by omega
    have hx : xs[i]? = some (xs.getD i Str.empty) := by
      rw [List.getD_eq_getElem?_getD, List.getElem?_eq_getElem (by omega)]
      rfl
    refine codeAny_builtin PyProof.Rows.F.entry_set_update_loop ?_
    rw [Around.under_plainId PyProof.Rows.F.plain_set_update_loop _]
    show wpAny _ A.in1 (pyNext (.ref I) >>= _) _ _ s
    refine wpAny_bind (W.item i s _ _ hlt hst fun v s' hP hst' hm => ?_)
    obtain ⟨t, rfl⟩ := hval i v hP
    have hS' := keep hm hS
    have hl := nub_len (xs.take i) ([] : List Str)
    rw [List.length_take, List.length_nil] at hl
    show wpAny _ A.in1 (holding [Value.str (xs.getD i Str.empty) t] (setAdd S (.str (xs.getD i Str.empty) t)) >>= _) _ _ s'
    refine wpAny_bind (wpAny_holding ?_)
    unfold setAdd
    refine wpAny_holding ?_
    refine wpAny_bind ((PySem.strKind prog w).pyHash (k := xs.getD i Str.empty) (strKind_is _ _ _ _) ?_)
    refine wpAny_setAddHashed_of (knd := PySem.strKind prog w) (s := { s' with toks := s'.toks + 1 }) (strKind_is _ _ _ _) rfl hS' (by unfold scanBound; omega) fun h' hsb hS2 => ?_
    have hSi : h'.SetOf (PySem.strKind prog w) S (fun z => decide (z ∈ nub [] (xs.take (i + 1)))) (nub [] (xs.take (i + 1))).length := by
      rw [take_snoc hx, nub_snoc]
      refine SetOf_congr hS2 (fun z => ?_) ?_
      · exact mem_step (xs.getD i Str.empty) z _
      · exact len_step (xs.getD i Str.empty) _
    refine wpAny_pure ⟨plainId_quiet PyProof.Rows.F.plain_set_update_loop _, ih (i + 1) _ (by omega) hlt (W.frame _ s' _ _ hst' (Nat.le_succ _) fun b hb o e => ?_) hSi fun s'' hm'' hS'' => ?_⟩
    · rw [hsb.2 b (fun h : b = S => hSf (by rw [← h]; exact hb))]; exact e
    · refine hR s'' (Moved.trans W.gtrans ((hm.mono hsub).then_heap (Nat.le_succ _) fun b o hb e => ?_) hm'') hS''
      rw [hsb.2 b (fun h : b = S => hb (by rw [h]; exact List.mem_cons_self))]; exact e
end
section
variable {prog : Program} {w : World} {A : Around} {E : Value → Shared → Prop} {s : Shared}
/-- an empty set, as it is laid -/
abbrev set0 (led : Bool) : Obj := { cls := .type "set", dict := none, data := .set #[] 0 (.fresh 0 0 led) }
/-- the unlike texts stand in the set at the old end of the heap, all else is kept -/
abbrev SetGot (prog : Program) (w : World) (s : Shared) (xs : List Str) (h' : Heap) : Prop :=
  h'.SetOf (PySem.strKind prog w) s.heap.objs.size (fun z => decide (z ∈ nub [] xs)) (nub [] xs).length ∧ ∀ b o, b < s.heap.objs.size → s.heap.get? b = some o → h'.get? b = some o
theorem set_fill {l : Addr} {items : Array Value} {xs : List Str} {led : Bool} {T : Result → Shared → Prop} (hh : A.handled = none) (hl : s.heap.IsList l items) (hi : StrsAre items.toList xs) (hn : xs.length ≤ 4000)
    (h : ∀ (h' : Heap) (tk : Nat), SetGot prog w s xs h' → T (.ok (.ret .none)) { s with heap := h', toks := tk }) :
    codeAny (model prog w) A (.builtin "set.update.loop" ⟨[.ref s.heap.objs.size, .ref (s.heap.push (set0 led)).objs.size], []⟩) T
      { s with heap := (s.heap.push (set0 led)).push { cls := .type "list_iterator", data := .fields #[.ref l, .int 0 0] } } := by
  have hS : (s.heap.push (set0 led)).get? s.heap.objs.size = some (set0 led) := Heap.get?_push_size _ rfl
  have hlS : l < s.heap.objs.size := let ⟨_, e, _⟩ := hl; Heap.lt_size e
  have e1 : (s.heap.push (set0 led)).objs.size = s.heap.objs.size + 1 := Heap.size_push _ _
  have hneI : l ≠ (s.heap.push (set0 led)).objs.size := by
    rw [e1]
    exact Nat.ne_of_lt (Nat.lt_succ_of_lt hlS)
  have hSf : s.heap.objs.size ∉ [(s.heap.push (set0 led)).objs.size, l] := by
    rw [e1]
    intro m
    rcases List.mem_cons.mp m with m | m
    · exact absurd m (Nat.ne_of_lt (Nat.lt_succ_self _))
    · exact absurd (List.mem_singleton.mp m) (Nat.ne_of_gt hlS)
  have hl1 : (s.heap.push (set0 led)).IsList l items := hl.push _
  have hsz : xs.length = items.size := by rw [← StrsAre.len_eq hi, Array.length_toList]
  have hval : ∀ (i : Nat) (v : Value), items[i]? = some v → ∃ t, v = .str (xs.getD i Str.empty) t := fun i v hv => SS.strs_at hi i v (by rw [Array.getElem?_toList]; exact hv)
  refine loop_texts ((Walks.list (show A.in1.handled = none by simp [hh]) _ l hneI items).toS) s.heap.objs.size hSf xs hsz (by omega) hval (items.size - 0) 0 _ (by omega) (Nat.zero_le _) ⟨⟨_, Heap.get?_push_size _ rfl, rfl, rfl⟩, (hl1.push _)⟩ ?_ fun s' hm hS' => ?_
  · exact SetOf_congr ((setObjOf_fresh (knd := PySem.strKind prog w) led).setOf (Heap.get?_push_of_some _ hS) (by unfold scanBound; omega)) (fun _ => rfl) rfl
  · obtain ⟨h', g', d', tk', os'⟩ := s'
    obtain rfl : g' = s.gens := hm.gens
    obtain rfl : d' = s.drawn := hm.drawn
    obtain rfl : os' = s.os := hm.os
    rw [← hsz, List.take_length] at hS'
    refine h h' tk' ⟨hS', fun b o hb e => hm.heap b o ?_ (Heap.get?_push_of_some _ (Heap.get?_push_of_some _ e))⟩
    intro m
    rcases List.mem_cons.mp m with m | m
    · exact absurd m (Nat.ne_of_lt hb)
    · have := List.mem_singleton.mp m
      rw [e1] at this
      exact absurd this (Nat.ne_of_lt (Nat.lt_succ_of_lt hb))
set_option maxHeartbeats 8000000 in
theorem call_set_texts {l : Addr} {items : Array Value} {xs : List Str} {Q : Value → Shared → Prop} (hh : A.handled = none) (hl : s.heap.IsList l items) (hi : StrsAre items.toList xs) (hn : xs.length ≤ 4000)
    (h : ∀ (h' : Heap) (tk : Nat), SetGot prog w s xs h' → Q (.ref s.heap.objs.size) { s with heap := h', toks := tk }) :
    wpAny (model prog w) A (call (.type "set") [.ref l]) Q E s := by
  obtain ⟨c, tl, hmro⟩ := PySem.F.called_set.mro
  have hmade := PySem.F.called_set.made
  have hsub := PySem.F.called_set.sub
  refine wpAny_call (codeAny_of_tree ?_)
  show wpAny _ _ (callAny (.type "set") _) _ _ _
  refine wpAny_pure ⟨Code.quiet_builtin _ (by decide +kernel), codeAny_builtin PySem.F.entry_type_call ?_⟩
  rw [Around.under_plain (weight_type_call_type "set" [.ref l] []) rfl]
  have h1 := PySem.F.called_set.notType
  have h2 := PySem.F.called_set.canCreate
  have hct := PySem.F.typeCall_set_1 (.ref l)
  repeat (any_goals (first | assumption | wp_step))
  refine codeAny_mono (code_set_new_1 (.ref l) (E := E) (Q₁ := fun obj s₁ => ∃ led : Bool, obj = .ref s.heap.objs.size ∧ s₁ = { s with heap := s.heap.push (set0 led) }) fun led => ⟨led, rfl, rfl⟩) fun r s₁ hr => ?_
  cases r with
  | error e => exact hr
  | ok fl =>
    cases fl with
    | ret obj =>
      obtain ⟨led, rfl, rfl⟩ := hr
      have hS : (s.heap.push (set0 led)).get? s.heap.objs.size = some (set0 led) := Heap.get?_push_size _ rfl
      have hT : Shared.TypeIs { s with heap := s.heap.push (set0 led) } (.ref s.heap.objs.size) "set" := ⟨_, hS, rfl⟩
      have hli := PySem.F.called_set.init.lookup
      have hbi := PySem.F.called_set.init.bind (.ref s.heap.objs.size)
      repeat (any_goals (first | assumption | wp_step))
      refine codeAny_mono (codeAny_call_builtin (R := wants (fun r s₂ => r = .none ∧ ∃ h' tk, s₂ = { s with heap := h', toks := tk } ∧ SetGot prog w s xs h') E) PySem.F.called_set.init.plain PySem.F.entry_set_init (check_set_init_1 hT ?_)) fun r₂ s₂ hr₂ => ?_
      · obtain ⟨ol, hol, hcl, nl, hdl⟩ := id hl
        obtain ⟨ocls, odict, odata, oslots⟩ := ol
        simp only at hcl hdl
        subst hcl; subst hdl
        have hol' : (s.heap.push (set0 led)).get? l = some { cls := .type "list", dict := odict, data := .seq items nl, slots := oslots } := Heap.get?_push_of_some _ hol
        have hsls := PySem.F.sub_list_set
        have hslf := PySem.F.sub_list_frozenset
        have hne : (Value.type "list" == Value.type "dict") = false := by decide
        have hl1 : (s.heap.push (set0 led)).IsList l items := ⟨_, hol', rfl, nl, rfl⟩
        unfold Builtin.«set.__init__» noKeywords Builtin.Frozenset.updateFrom
        generalize hPI : pyIter = PI
        wp_walk
        subst hPI
        refine wpAny_pyIter_list hl1 ?_
        refine wpAny_bind (wpAny_runValue ?_)
        refine set_fill (led := led) (by simp [hh]) hl hi hn fun h' tk got => ?_
        show wpAny _ _ _ _ _ _
        refine wpAny_pure ?_
        show wpAny _ _ (ret Value.none) _ _ _
        exact wpAny_pure ⟨rfl, h', tk, rfl, got⟩
      · cases r₂ with
        | error e => exact hr₂
        | ok fl₂ =>
          cases fl₂ with
          | ret r =>
            obtain ⟨rfl, h', tk, rfl, got⟩ := hr₂
            repeat (any_goals (first | assumption | wp_step))
            exact h _ _ got
          | _ => exact hr₂.elim
    | _ => exact hr.elim
end
/-- len(set(texts)) -/
def tLenTexts (K : PySem.W.Frag) (ta : TE) : TE := fun σ H Q => ta σ H fun x H1 => ∃ (l : Addr) (xs : List Str), x = .ref l ∧ SqL K H1 l (xs.map V.str) ∧ xs.length ≤ 4000 ∧ Q (.int (nub [] xs).length) H1
theorem pe_lenTexts {X : Cx} {a : Expr} {ta : TE} {p p2 q pos : Pos} (hg : Gl X "len") (hm : X.mg "len" = none) (hg2 : Gl X "set") (hm2 : X.mg "set" = none) (ha : PE X a ta) (hc : X.calm = true := by rfl)
    (na : starEach [a] X.env = (false, eval a X.env) :: starEach [] X.env := by rfl) : PE X (.Call (.Name "len" p) [.Call (.Name "set" p2) [a] [] q] [] pos) (tLenTexts X.K ta) := by
  refine ⟨fun pins s σ H Q I h => ?_⟩
  refine Call_ (ld_blt I hg hm boot_len ?_)
  refine callWith_builtin1 (args_cons ?_ rfl) rfl rfl
  refine Call_ (ld_blt I hg2 hm2 boot_set ?_)
  refine callWith_type1 (args_cons (thn (ha.run pins s σ H _ I h) fun v s1 ⟨x, H1, I1, r1, q1⟩ => args_nil ?_) na) na rfl
  obtain ⟨l, xs, rfl, hq, hn, q1⟩ := q1
  cases r1
  obtain ⟨its, r, pl, hz⟩ := I1.list hq
  refine call_set_texts (I1.ok.hd hc) pl.isList (by simpa using strsAre_of r) hn fun h' tk ⟨hS, hk⟩ => ?_
  refine args_nil ?_
  obtain ⟨o, es, ep, t, ho, hex, hd, _, _, _, hf, hlen⟩ := hS
  have I2 : Inv X pins σ H1 { s1 with heap := h', toks := tk } := I1.kept fun b o e => hk b o (Heap.lt_size e) e
  have hl := nub_len xs ([] : List Str)
  rw [List.length_nil] at hl
  refine call_len_set ho hex hd hf (by rw [hlen] <;> omega) ⟨.int (nub [] xs).length, H1, I2.tok _, ⟨_, by rw [hlen]⟩, q1⟩
end Cm

set_option linter.all false
/-! plain classes: an __init__ that stores its parameters, fields of data, an __eq__ over all fields -/
namespace Cm
open PySem L2 PySem.Spec PyProof.Rows
theorem putF_new {f : Str} {v : V} : ∀ {fs : List (Str × V)}, ¬ f ∈ fs.map (·.1) → putF f v fs = fs ++ [(f, v)]
  | [], _ => rfl
  | (g, x) :: r, h => by
    have h1 : ¬ g = f := fun e => h (by rw [← e]; exact List.mem_cons_self)
    have h2 : ¬ f ∈ r.map (·.1) := fun m => h (List.mem_cons_of_mem _ m)
    show (if g = f then (g, v) :: r else (g, x) :: putF f v r) = _
    rw [if_neg h1, putF_new h2]
    rfl
/-- one field more is stored by __init__ -/
theorem fld_step {K : PySem.W.Frag} {D : Ends} {σ : L2.St} {H0 : Hp} {p C dx : Addr} {fs : List (Str × V)} {f : Str} {i : Nat} {v : V} (hi : σ[i]? = some (some v)) (h0 : σ[0]? = some (some (.ref p))) (cl : Cls K C) (na : NoAttr K C f)
    (hn : ¬ f ∈ fs.map (·.1)) (hl : fs.length < 1000) (k : D.nx σ (upd H0 p (.ins C dx (fs ++ [(f, v)])))) : sFld K (tVar 0) (tVar i) f D σ (upd H0 p (.ins C dx fs)) := by
  refine ⟨v, hi, _, h0, p, C, dx, fs, rfl, upd_same, cl, na, hl, ?_⟩
  rw [upd_upd, putF_new hn]
  exact k
/-- what such an __init__ promises -/
def spIni (C : Addr) (names : List Str) : Sp := fun vs H Q _ => ∃ (H0 : Hp) (p dx : Addr) (xs : List V), vs = .ref p :: xs ∧ xs.length = names.length ∧ H = upd H0 p (.ins C dx []) ∧ Q .non (upd H0 p (.ins C dx (names.zip xs)))
/-- an object of the class at C whose fields hold such data -/
structure Ob (K : PySem.W.Frag) (H : Hp) (C : Addr) (names : List Str) (a : Addr) (ds : List PyData) : Prop where
  ex : ∃ (dx : Addr) (xs : List V), H a = some (.ins C dx (names.zip xs)) ∧ DpAll K H xs ds ∧ xs.length = names.length
theorem Ob.same {K : PySem.W.Frag} {H H' : Hp} {C : Addr} {names : List Str} {a : Addr} {ds : List PyData} (o : Ob K H C names a ds) (s : Same H H') : Ob K H' C names a ds :=
  let ⟨dx, xs, h, d, l⟩ := o.ex; ⟨dx, xs, s _ _ h, dps_same s _ _ d, l⟩
theorem Ob.kp {K : PySem.W.Frag} {M : Addr → Prop} {H H' : Hp} {C : Addr} {names : List Str} {a : Addr} {ds : List PyData} (o : Ob K H C names a ds) (s : Kp M H H') (fl : flatDs ds = true) : Ob K H' C names a ds := by
  obtain ⟨dx, xs, h, d, l⟩ := o.ex
  refine ⟨dx, xs, s.st _ _ (fun m => ?_) h, dps_keep (fun _ _ q => s.tup q) _ _ fl d, l⟩
  obtain ⟨ys, e⟩ := s.l1 a m
  rw [h] at e
  cases e
/-- C(e, ..) makes an object with such fields -/
theorem made_ob {K : PySem.W.Frag} {C : Addr} {names : List Str} {H : Hp} {Q : VK} {vs : List V} {ds : List PyData} (hd : DpAll K H vs ds) (hl : vs.length = names.length) (k : ∀ p H', H p = none → Same H H' → Ob K H' C names p ds → Q (.ref p) H') :
    ∀ x dx, H x = none → H dx = none → dx ≠ x → spIni C names (.ref x :: (vs ++ [])) (upd (upd H dx (.own x)) x (.ins C dx [])) (fun v H' => v = .non ∧ Q (.ref x) H') E0 := fun x dx nx ndx ne => by
  refine ⟨upd H dx (.own x), x, dx, vs, by rw [List.append_nil], hl, rfl, rfl, ?_⟩
  have n2 : upd H dx (.own x) x = none := by
    rw [upd_ne ne.symm]
    exact nx
  have s : Same H (upd (upd H dx (.own x)) x (.ins C dx (names.zip vs))) := (same_new ndx).trans (same_new n2)
  exact k x _ nx s ⟨dx, vs, upd_same, dps_same s _ _ hd, hl⟩
theorem lookup_zip {f : Str} {v : V} : ∀ {names : List Str} {xs : List V} {i : Nat}, names.Nodup → names[i]? = some f → xs[i]? = some v → (names.zip xs).lookup f = some v
  | [], _, _, _, h, _ => by simp at h
  | _ :: _, [], _, _, _, h => by simp at h
  | g :: names, x :: xs, 0, nd, h1, h2 => by
    simp only [List.getElem?_cons_zero, Option.some.injEq] at h1 h2
    subst h1 h2
    show (match g == g with | true => some x | false => (names.zip xs).lookup g) = some x
    rw [beq_self_eq_true]
  | g :: names, x :: xs, i + 1, nd, h1, h2 => by
    rw [List.getElem?_cons_succ] at h1 h2
    have ne : (f == g) = false := by
      rw [beq_eq_false_iff_ne]
      intro e
      subst e
      exact (List.nodup_cons.mp nd).1 (List.mem_of_getElem? h1)
    show (match f == g with | true => some x | false => (names.zip xs).lookup f) = some v
    rw [ne]
    exact lookup_zip (List.nodup_cons.mp nd).2 h1 h2
theorem made_ob2 {K : PySem.W.Frag} {C : Addr} {names : List Str} {H : Hp} {vs : List V} {ds : List PyData} {x dx : Addr} (hd : DpAll K H vs ds) (hl : vs.length = names.length) (nx : H x = none) (ndx : H dx = none) (ne : dx ≠ x) :
    ∃ H', Same H H' ∧ Ob K H' C names x ds ∧ ∀ Q' : VK, Q' .non H' → spIni C names (.ref x :: (vs ++ [])) (upd (upd H dx (.own x)) x (.ins C dx [])) Q' E0 := by
  have n2 : upd H dx (.own x) x = none := by
    rw [upd_ne ne.symm]
    exact nx
  have s : Same H (upd (upd H dx (.own x)) x (.ins C dx (names.zip vs))) := (same_new ndx).trans (same_new n2)
  exact ⟨_, s, ⟨dx, vs, upd_same, dps_same s _ _ hd, hl⟩, fun Q' q => ⟨upd H dx (.own x), x, dx, vs, by rw [List.append_nil], hl, rfl, q⟩⟩
/-- a field is read -/
theorem ob_fld {K : PySem.W.Frag} {H : Hp} {C : Addr} {names : List Str} {a : Addr} {ds : List PyData} {f : Str} {Q : VK} (o : Ob K H C names a ds) (cl : Cls K C) (na : NoAttr K C f) (i : Nat) {d : PyData} (hd : ds[i]? = some d)
    (hf : names[i]? = some f) (nd : names.Nodup) (k : ∀ v, Dp K H v d → Q v H) :
    ∃ b C' dx fs v, (V.ref a) = .ref b ∧ H b = some (.ins C' dx fs) ∧ Cls K C' ∧ NoAttr K C' f ∧ fs.lookup f = some v ∧ Q v H := by
  obtain ⟨dx, xs, h, hx, l⟩ := o.ex
  obtain ⟨v, e, hv⟩ := DpAll.at hx hd
  exact ⟨a, C, dx, _, v, rfl, h, cl, na, lookup_zip nd hf e, k v hv⟩
theorem Ob.fld {K : PySem.W.Frag} {H : Hp} {C : Addr} {names : List Str} {a : Addr} {ds : List PyData} {f : Str} (o : Ob K H C names a ds) (i : Nat) {d : PyData} (hd : ds[i]? = some d) (hf : names[i]? = some f) (nd : names.Nodup) :
    ∃ dx fs v, H a = some (.ins C dx fs) ∧ fs.lookup f = some v ∧ Dp K H v d := by
  obtain ⟨dx, xs, h, hx, l⟩ := o.ex
  obtain ⟨v, e, hv⟩ := DpAll.at hx hd
  exact ⟨dx, _, v, h, lookup_zip nd hf e, hv⟩
/-- what changed was new -/
theorem kp_new {H H' : Hp} {L : Addr} {o : HO} (hL : H L = none) (kp : Kp (fun x => x = L) (upd H L o) H') : Same H H' := fun b u e => by
  have n : b ≠ L := ne_of_none e hL
  exact kp.st b u n (by rw [upd_ne n]; exact e)
theorem ref_not_non {t : Addr} : (!decide (V.ref t = V.non)) = true := by
  rw [decide_eq_false (by intro z; cases z)]
  rfl
theorem non_non : (!decide (V.non = V.non)) = false := by
  rw [decide_eq_true rfl]
  rfl
theorem kit_self {K : PySem.W.Frag} {C : Addr} : PySem.W.kitOne K (.ref C) (.ref C) = some true := if_pos (by simp)
theorem eqv_all (d : PyData) (h : SeqAt.shaped d = true) : PyData.eqv d d = true := SeqAt.eqv_refl d (SeqAt.canLay_of_shaped h)
/-- the answer of an __eq__ over all fields -/
def eqs : List PyData → List PyData → Bool
  | d :: ds, e :: es => PyData.eqv d e && eqs ds es
  | _, _ => true
theorem eqs_refl : ∀ ds : List PyData, (∀ d ∈ ds, SeqAt.shaped d = true) → eqs ds ds = true
  | [], _ => rfl
  | d :: ds, h => by
    show (PyData.eqv d d && eqs ds ds) = true
    rw [eqv_all d (h d List.mem_cons_self), eqs_refl ds fun e m => h e (List.mem_cons_of_mem _ m)]
    rfl
def spEqA (K : PySem.W.Frag) (C : Addr) (names : List Str) : Sp := fun vs H Q _ => ∃ (a b : Addr) (ds es : List PyData), vs = [.ref a, .ref b] ∧ Ob K H C names a ds ∧ Ob K H C names b es ∧ (∀ d ∈ ds, SeqAt.shaped d = true) ∧ (∀ d ∈ es, SeqAt.shaped d = true) ∧ Q (.bl (eqs ds es)) H
theorem fld_eq {K : PySem.W.Frag} {H : Hp} {C : Addr} {names : List Str} {a b : Addr} {ds es : List PyData} {f : Str} {σ : L2.St} {Q : VK} (i : Nat) {d e : PyData} (o : Ob K H C names a ds) (o' : Ob K H C names b es) (cl : Cls K C) (na : NoAttr K C f)
    (h0 : σ[0]? = some (some (.ref a))) (h1 : σ[1]? = some (some (.ref b))) (hd : ds[i]? = some d) (he : es[i]? = some e) (hf : names[i]? = some f) (nd : names.Nodup) (sd : ∀ d ∈ ds, SeqAt.shaped d = true) (se : ∀ d ∈ es, SeqAt.shaped d = true)
    (k : Q (.bl (PyData.eqv d e)) H) : tOp (rEqD K) (tFld K (tVar 0) f) (tFld K (tVar 1) f) σ H Q :=
  ⟨_, h0, ob_fld (Q := fun x H1 => tFld K (tVar 1) f σ H1 fun y H2 => rEqD K x y H2 Q) o cl na i hd hf nd fun v hv =>
    ⟨_, h1, ob_fld (Q := fun y H2 => rEqD K v y H2 Q) o' cl na i he hf nd fun _ hu => ⟨d, e, hv, hu, sd d (List.mem_of_getElem? hd), se e (List.mem_of_getElem? he), k⟩⟩⟩
theorem and_fld {K : PySem.W.Frag} {H : Hp} {C : Addr} {names : List Str} {a b : Addr} {ds es : List PyData} {f : Str} {σ : L2.St} {Q : VK} {rest : TE} (i : Nat) {d e : PyData} (o : Ob K H C names a ds) (o' : Ob K H C names b es) (cl : Cls K C) (na : NoAttr K C f)
    (h0 : σ[0]? = some (some (.ref a))) (h1 : σ[1]? = some (some (.ref b))) (hd : ds[i]? = some d) (he : es[i]? = some e) (hf : names[i]? = some f) (nd : names.Nodup) (sd : ∀ d ∈ ds, SeqAt.shaped d = true) (se : ∀ d ∈ es, SeqAt.shaped d = true)
    (k1 : PyData.eqv d e = true → rest σ H Q) (k0 : PyData.eqv d e = false → Q (.bl false) H) : tAndV (tOp (rEqD K) (tFld K (tVar 0) f) (tFld K (tVar 1) f)) rest σ H Q := by
  refine fld_eq i o o' cl na h0 h1 hd he hf nd sd se ⟨_, rfl, ?_⟩
  cases e2 : PyData.eqv d e with
  | true => exact iteT (k1 e2)
  | false => exact iteF (k0 e2)
theorem eqs_t {d e : PyData} {ds es : List PyData} (h : PyData.eqv d e = true) : eqs (d :: ds) (e :: es) = eqs ds es := by
  show (PyData.eqv d e && eqs ds es) = _
  rw [h, Bool.true_and]
theorem eqs_f {d e : PyData} {ds es : List PyData} (h : PyData.eqv d e = false) : eqs (d :: ds) (e :: es) = false := by
  show (PyData.eqv d e && eqs ds es) = _
  rw [h, Bool.false_and]
/-- facts of a plain class -/
structure ClsT (K : PySem.W.Frag) (mg : Str → Option Value) (x : Str) (C : Addr) (names : List Str) : Prop where
  ins : C8.InsC K C
  mg : mg x = some (.ref C)
  no : ∀ f ∈ names, NoAttr K C f
theorem Ob.ins {K : PySem.W.Frag} {H : Hp} {C : Addr} {names : List Str} {a : Addr} {ds : List PyData} (o : Ob K H C names a ds) : ∃ dx fs, H a = some (.ins C dx fs) := let ⟨dx, _, h, _⟩ := o.ex; ⟨dx, _, h⟩
/-- x == y over two such objects -/
theorem eq_ob {K : PySem.W.Frag} {H : Hp} {C : Addr} {names : List Str} {a b : Addr} {ds es : List PyData} {Q : VK} (o : Ob K H C names a ds) (o' : Ob K H C names b es) (h1 : ∀ d ∈ ds, SeqAt.shaped d = true) (h2 : ∀ d ∈ es, SeqAt.shaped d = true)
    (k : Q (.bl (eqs ds es)) H) : rEqO C (spEqA K C names) (.ref a) (.ref b) H Q := by
  obtain ⟨dx, fs, e⟩ := o.ins
  obtain ⟨dy, gs, e'⟩ := o'.ins
  exact ⟨a, b, dx, dy, fs, gs, rfl, rfl, e, e', a, b, ds, es, rfl, o, o', h1, h2, _, rfl, k⟩
end Cm

namespace K12
open PySem L2 Cm PyProof.Rows LamX NdefX
abbrev namesB : List Str := ["deed", "worth"]
abbrev s_BI : Stmt := inClass (top 1) 0
abbrev s_l_next : Stmt := top 7
abbrev N_l_next : List Str := ["_law_rows", "_law_log", "_law_at"]
theorem sc_l_next : FnScope N_l_next ["_law_rows", "_law_log", "_law_at"] (defScope s_l_next) := ⟨rfl, rfl, rfl, by decide +kernel, rfl, by decide +kernel, by decide +kernel⟩
/-- the lambda and its parts -/
abbrev lamX : Expr := match defBody s_l_next with
  | [_, .Return (some (.Call _ (l :: _) _ _)) _] => l
  | _ => .Name "" ⟨0, 0, 0, 0⟩
abbrev lamP : Arguments := match lamX with
  | .Lambda p _ _ _ => p
  | _ => defArgs s_l_next
abbrev lamB : Expr := match lamX with
  | .Lambda _ b _ _ => b
  | _ => lamX
abbrev lamS : Scope := match lamX with
  | .Lambda _ _ s _ => s
  | _ => defScope s_l_next
abbrev qL : Str := "_law_next.<locals>.<lambda>"
abbrev N_lam : List Str := ["_law_worth", "_law_at", "_law_log", "_law_rows"]
abbrev frL : List Str := ["_law_at", "_law_log", "_law_rows"]
theorem sc_lam : NScope N_lam ["_law_worth"] frL lamS := nscope_by (by decide +kernel)
abbrev lamF (cl : List (Str × Addr)) (c : Addr) : NF := ⟨"<lambda>", qL, lamP, [], lamS, cl, c⟩
/-- the bounce at b: what is due for the i-th row -/
def BoAt (C R L : Addr) (i : Nat) (b : Addr) (x : Int) (H : Hp) : Prop := ∃ dx f cl c, H b = some (.ins C dx [("deed", .ref f), ("worth", .int x)]) ∧ H f = some (LamO f (lamF cl c) lamB) ∧ H c = some (CodeO c qL) ∧ CellsH cl frL [.int (i : Int), .ref L, .ref R] H
/-- all but the tables and the list at L stay -/
def ExtL (L : Addr) (H H' : Hp) : Prop := ∀ b o, H b = some o → (∀ ps, o ≠ .tbl ps) → b ≠ L → H' b = some o
theorem ExtL.refl (L : Addr) (H : Hp) : ExtL L H H := fun _ _ e _ _ => e
theorem ExtL.trans {L : Addr} {H H1 H2 : Hp} (a : ExtL L H H1) (b : ExtL L H1 H2) : ExtL L H H2 := fun c o e n m => b c o (a c o e n m) n m
theorem ExtL.of {L : Addr} {H H' : Hp} (e : ExtN H H') : ExtL L H H' := fun b o h n _ => e b o h n
theorem ExtL.same {L : Addr} {H H' : Hp} (e : Same H H') : ExtL L H H' := fun b o h _ _ => e b o h
theorem ExtL.put {L : Addr} {H : Hp} {o : HO} : ExtL L H (upd H L o) := fun b u h _ n => by
  rw [upd_ne n]
  exact h
theorem lamO_ne {f : Addr} {F : NF} {e : Expr} (ps : Array Value) : LamO f F e ≠ .tbl ps := fun z => by
  unfold LamO at z
  cases z
theorem cellO_ne {c : Addr} {v : V} (ps : Array Value) : CellO c v ≠ .tbl ps := fun z => by
  unfold CellO at z
  cases z
theorem ExtL.bo {C R L : Addr} {i : Nat} {b : Addr} {x : Int} {H H' : Hp} {xs : List V} (e : ExtL L H H') (hL : H L = some (.lst xs)) (z : BoAt C R L i b x H) : BoAt C R L i b x H' := by
  obtain ⟨dx, f, cl, c, h1, h2, h3, C⟩ := z
  have nl : ∀ {a : Addr} {o : HO}, H a = some o → (∀ ys, o ≠ .lst ys) → a ≠ L := fun {a o} h n z => by
    rw [z, hL] at h
    exact n xs (Option.some.inj h).symm
  refine ⟨dx, f, cl, c, e _ _ h1 (fun ps z => by cases z) (nl h1 fun ys z => by cases z), e _ _ h2 lamO_ne (nl h2 fun ys z => by unfold LamO at z; cases z), e _ _ h3 codeO_ne (nl h3 fun ys z => by unfold CodeO at z; cases z), C.len, C.inj, C.all, fun j y ej => ?_⟩
  obtain ⟨cc, v, e1, e2, e3⟩ := C.has j y ej
  exact ⟨cc, v, e1, e2, e _ _ e3 cellO_ne (nl e3 fun ys z => by unfold CellO at z; cases z)⟩
/-- what stands for the i-th row: a bounce, or None behind the last -/
def Res (C R L : Addr) (rws : List Int) (i : Nat) (v : V) (H : Hp) : Prop := (rws.length ≤ i ∧ v = .non) ∨ ∃ b x, rws[i]? = some x ∧ v = .ref b ∧ BoAt C R L i b x H
theorem ExtL.res {C R L : Addr} {rws : List Int} {i : Nat} {v : V} {H H' : Hp} {xs : List V} (e : ExtL L H H') (hL : H L = some (.lst xs)) (z : Res C R L rws i v H) : Res C R L rws i v H' := by
  rcases z with z | ⟨b, x, e1, e2, e3⟩
  · exact .inl z
  · exact .inr ⟨b, x, e1, e2, e.bo hL e3⟩
theorem ExtL.tabs {T : List (Addr × Str)} {L : Addr} {H : Hp} {xs : List V} {o : HO} (t : Tabs T H) (hL : H L = some (.lst xs)) : Tabs T (upd H L o) := fun p hp => by
  obtain ⟨ps, h1, h2, h3⟩ := t p hp
  refine ⟨ps, by rw [upd_ne (fun z => by rw [z, hL] at h1; cases h1)]; exact h1, h2, fun pos cv hc => ?_⟩
  obtain ⟨c, e1, e2⟩ := h3 pos cv hc
  exact ⟨c, e1, by rw [upd_ne (fun z => by rw [z, hL] at e2; unfold CodeO at e2; cases e2)]; exact e2⟩
theorem tabs_same {T : List (Addr × Str)} {H H' : Hp} (t : Tabs T H) (s : Same H H') : Tabs T H' := t.ext s
def spNext (C : Addr) (T : List (Addr × Str)) : Sp := fun vs H Q _ => ∃ (R L : Addr) (rws : List Int) (i : Nat), vs = [.ref R, .ref L, .int (i : Int)] ∧ H R = some (.lst (rws.map V.int)) ∧ (∃ lg, H L = some (.lst lg)) ∧ Tabs T H ∧ ∀ (v : V) (H' : Hp), ExtN H H' → Tabs T H' → Res C R L rws i v H' → Q v H'
def spDone (C : Addr) (T : List (Addr × Str)) : Sp := fun vs H Q _ => ∃ (R L : Addr) (rws lg : List Int) (i : Nat) (w : Int), vs = [.ref R, .ref L, .int (i : Int), .int w] ∧ H R = some (.lst (rws.map V.int)) ∧ H L = some (.lst (lg.map V.int)) ∧ R ≠ L ∧ lg.length ≤ 20000 ∧ Tabs T H ∧
  ∀ (v : V) (H' : Hp), ExtL L H H' → H' L = some (.lst ((lg ++ [w]).map V.int)) → Tabs T H' → Res C R L rws (i + 1) v H' → Q v H'
def spLam (C : Addr) (T : List (Addr × Str)) (ws : List V) : Sp := fun vs H Q _ => ∃ (R L : Addr) (rws lg : List Int) (i : Nat) (w : Int), ws = [.int (i : Int), .ref L, .ref R] ∧ vs = [.int w] ∧ H R = some (.lst (rws.map V.int)) ∧ H L = some (.lst (lg.map V.int)) ∧ R ≠ L ∧ lg.length ≤ 20000 ∧ Tabs T H ∧
  ∀ (v : V) (H' : Hp), ExtL L H H' → H' L = some (.lst ((lg ++ [w]).map V.int)) → Tabs T H' → Res C R L rws (i + 1) v H' → Q v H'
section
variable {P : Program} {w : World} {K : PySem.W.Frag} {mg : Str → Option Value} {base : Heap}
theorem sc_BI : FnScope ["self", "deed", "worth"] ["self", "deed", "worth"] (defScope s_BI) := ⟨rfl, rfl, rfl, by decide +kernel, rfl, by decide +kernel, by decide +kernel⟩
theorem ok_BI {C f : Addr} {fd : FuncData} (F : Fun K "__init__" "Bounce.__init__" s_BI f fd) (T : ClsT K mg "Bounce" C namesB) : FnOk P w K mg base CX0 1 f fd ["self", "deed", "worth"] (spIni C namesB) := by
  refine F.ok sc_BI (fun vs H Q E h => ?_) (fun cdv A outer s H vs Q E hr h => ?_)
  · obtain ⟨H0, p, dx, xs, rfl, hl, _⟩ := h
    exact congrArg (· + 1) hl
  · obtain ⟨H0, p, dx, xs, rfl, hl, rfl, k⟩ := h
    obtain ⟨a, b, rfl⟩ : ∃ a b, xs = [a, b] := by
      match xs, hl with
      | [a, b], _ => exact ⟨a, b, rfl⟩
    refine ⟨_, (pss_cons (ps_fld (pv 0) (pv 1) rfl) (pss_one (ps_fld (pv 0) (pv 2) rfl))), ?_⟩
    refine fld_step rfl rfl T.ins.cl (T.no _ (by decide +kernel)) (by decide +kernel) (by show 0 < 1000; decide) ?_
    refine fld_step rfl rfl T.ins.cl (T.no _ (by decide +kernel)) (by show ¬ ("worth" : Str) ∈ (["deed"] : List Str); decide +kernel) (by show 1 < 1000; decide) ?_
    exact k
end
end K12

namespace K12
open PySem L2 Cm PyProof.Rows LamX NdefX
section
variable {P : Program} {w : World} {K : PySem.W.Frag} {mg : Str → Option Value} {base : Heap}
theorem lam_free : ∀ y ∈ lamS.names, y.2 = .free → (defScope s_l_next).names.lookup y.1 = some .cell ∨ (defScope s_l_next).names.lookup y.1 = some .free := ndef_free (fr := frL) (by decide +kernel)
theorem lam_fr : ∀ y ∈ frL, (y, NameKind.free) ∈ lamS.names := ndef_fr (sc := defScope s_l_next) (by decide +kernel)
/-- the cells of the maker are those of the lambda -/
theorem cells_made {n : Nat} {σ : L2.St} {H : Hp} {ws : List V} (inj : InjC (cellsFrom n (defScope s_l_next).names [])) (hw : ws.length = 3) (hv : ∀ (i : Nat) (y : Str), frL[i]? = some y → ∃ v, ws[i]? = some v ∧ valS N_l_next σ y = some v) :
    CellsH (cloFrom (cellsFrom n (defScope s_l_next).names []) lamS.names []) frL ws (expH (cellsFrom n (defScope s_l_next).names []) (valS N_l_next σ) H) := by
  have hc : ∀ y, (defScope s_l_next).names.lookup y = some .cell → ∃ c, (cellsFrom n (defScope s_l_next).names []).lookup y = some c := fun y e => cell_has e
  have hfree : ∀ y ∈ lamS.names, y.2 = .free → ∃ c, (cellsFrom n (defScope s_l_next).names []).lookup y.1 = some c := fun y hy e => by
    rcases lam_free y hy e with z | z
    · exact hc _ z
    · exact absurd (PySem.mem_of_lookup z) (by
        intro m
        have : ∀ p ∈ (defScope s_l_next).names, p.2 ≠ .free := by decide +kernel
        exact this _ m rfl)
  refine ⟨hw, fun x y c e1 e2 => inj x y c (clo_cm hfree e1) (clo_cm hfree e2), fun y c e => ?_, fun i y e => ?_⟩
  · rcases cloFrom_mem (PySem.mem_of_lookup e) with hm | ⟨h1, _⟩
    · cases hm
    · exact sc_lam.free _ h1 rfl
  · have m := lam_fr y (List.mem_of_getElem? e)
    obtain ⟨c, ec⟩ := hfree _ m rfl
    obtain ⟨v, e1, e2⟩ := hv i y e
    exact ⟨c, v, clo_has hfree m ec, e1, by rw [expH_cell inj ec, e2]; rfl⟩
theorem ok_next {C c Pt f : Addr} {oc : Value} {od : Option Addr} {kV doc pm ct : Value} {an : Option Addr} {osl : Array (Option Value)} (Tx : Txt mg)
    (lk : K.lookup f = some ⟨oc, od, .func (PySem.W.fnOf "_law_next" "_law_next" (defArgs s_l_next) (defBody s_l_next) (defScope s_l_next) .none kV doc pm an (.ref c) ct), osl⟩) (hcd : PySem.W.codeIn K (.ref c) "_law_next" = true) (TB : TabB base mg c Pt) (mkB : MkC P w K mg base 1 "Bounce" C (spIni C namesB)) :
    FnOk P w K mg base CX0 3 f (PySem.W.fnOf "_law_next" "_law_next" (defArgs s_l_next) (defBody s_l_next) (defScope s_l_next) .none kV doc pm an (.ref c) ct) ["_law_rows", "_law_log", "_law_at"] (spNext C [(Pt, qL)]) := by
  refine okC lk hcd rfl sc_l_next (by decide +kernel) (fun vs H Q E h => ?_) fun A outer s H vs Q E hr h => ?_
  · obtain ⟨R, L, rws, i, rfl, _⟩ := h
    rfl
  · obtain ⟨R, L, rws, i, rfl, hR, ⟨lg, hL⟩, hT, k⟩ := h
    refine ⟨_, _, ps_if (pt_cmpR op_ge (pv 2) (pe_callB call_len_seq (by rfl) Tx.len (by decide +kernel) (pa_cons (pv 0) pa_nil)) (nomark _)) (pss_one (ps_ret pe_non)) pss_nil,
      pe_mkC mkB hr (by decide) (by rfl) (pa_cons (pe_lamV (T := [(Pt, qL)]) TB rfl List.mem_cons_self (fun p hp _ => by rw [List.mem_singleton.mp hp]; rfl) rfl lam_free) (pa_cons (pe_ix ix_list (pv 0) (pv 2) (fun _ _ => rfl)) pa_nil)), ?_⟩
    refine ⟨_, rfl, _, rfl, R, _, rfl, .inl (.inl (.inl hR)), _, _, rfl, rfl, _, rfl, ?_⟩
    by_cases z : (((rws.map V.int).length : Nat) : Int) ≤ (i : Int)
    · rw [decide_eq_true z]
      rw [List.length_map] at z
      exact iteT (k .non H (ExtN.refl H) hT (.inl ⟨by omega, rfl⟩))
    · rw [decide_eq_false z]
      rw [List.length_map] at z
      have hi : i < rws.length := by omega
      refine iteF ⟨hT, fun fL c' H1 eN T1 _ f1 c1 => ?_⟩
      have hR1 := eN _ _ hR (fun ps z => by cases z)
      refine ⟨_, rfl, _, rfl, R, _, _, .int rws[i], rfl, rfl, .inl (.inl hR1), atI_nat (by rw [List.getElem?_map, List.getElem?_eq_getElem hi]; rfl), ?_⟩
      intro x dx nx ndx ne
      refine ⟨upd H1 dx (.own x), x, dx, [.ref fL, .int rws[i]], rfl, rfl, rfl, ⟨rfl, fun frc inj => ?_⟩⟩
      have n2 : upd H1 dx (.own x) x = none := by
        rw [upd_ne ne.symm]
        exact nx
      have s2 : Same H1 (upd (upd H1 dx (.own x)) x (.ins C dx (namesB.zip [.ref fL, .int rws[i]]))) := (same_new ndx).trans (same_new n2)
      have s3 : Same H1 (expH (cellsFrom (s.heap.objs.size + 1) (defScope s_l_next).names []) (valS N_l_next (L2.start N_l_next [.ref R, .ref L, .int (i : Int)])) (upd (upd H1 dx (.own x)) x (.ins C dx (namesB.zip [.ref fL, .int rws[i]])))) := fun b o e => expH_keep frc (s2 b o e)
      refine k (.ref x) _ (fun b o e n => s3 b o (eN b o e n)) (T1.ext s3) (.inr ⟨x, rws[i], List.getElem?_eq_getElem hi, rfl, dx, fL, _, c', expH_keep frc upd_same, s3 _ _ f1, s3 _ _ c1, ?_⟩)
      refine cells_made inj rfl fun j y ej => ?_
      match j, ej with
      | 0, ej => cases ej; exact ⟨_, rfl, rfl⟩
      | 1, ej => cases ej; exact ⟨_, rfl, rfl⟩
      | 2, ej => cases ej; exact ⟨_, rfl, rfl⟩
end
end K12

namespace K12
open PySem L2 Cm PyProof.Rows LamX NdefX
theorem rep_get {n a : Nat} {o : Obj} (h : a < n) (nf : o.data ≠ .freed) : Heap.get? { objs := Array.replicate n o } a = some o := by
  have e : ({ objs := Array.replicate n o } : Heap).objs[a]? = some o := by
    show (Array.replicate n o)[a]? = _
    rw [Array.getElem?_replicate, if_pos h]
  unfold Heap.get?
  rw [e]
  obtain ⟨c1, c2, d, c3⟩ := o
  cases d <;> first | rfl | exact absurd rfl nf
theorem code_ne_cell {c b : Addr} {q : Str} {v : V} : CodeO c q ≠ CellO b v := fun z => by
  unfold CodeO CellO at z
  have e := HO.ext.inj z
  have e2 := congrFun e { objs := Array.replicate (max b c + 1) { cls := .none, data := .fields #[.none, .str q 0] } }
  have h1 : ∀ a, a ≤ max b c → Heap.get? { objs := Array.replicate (max b c + 1) { cls := .none, data := .fields #[.none, .str q 0] } } a = some ({ cls := .none, data := .fields #[.none, .str q 0] } : Obj) := fun a ha => rep_get (Nat.lt_succ_of_le ha) fun z => by cases z
  have p1 := e2.mp ⟨_, _, 0, h1 c (Nat.le_max_right _ _), rfl, rfl⟩
  obtain ⟨u, _, o, ho, hd⟩ := p1
  rw [h1 b (Nat.le_max_left _ _)] at ho
  cases ho
  cases hd
theorem lam_ne_cell {f b : Addr} {F : NF} {e : Expr} {v : V} : LamO f F e ≠ CellO b v := fun z => by
  unfold LamO CellO at z
  have e' := HO.ext.inj z
  have e2 := congrFun e' { objs := Array.replicate (max b f + 1) (PySem.W.kla_obj F.name F.qual F.params e F.scope F.cl .none F.c .none) }
  have h1 : ∀ a, a ≤ max b f → Heap.get? { objs := Array.replicate (max b f + 1) (PySem.W.kla_obj F.name F.qual F.params e F.scope F.cl .none F.c .none) } a = some (PySem.W.kla_obj F.name F.qual F.params e F.scope F.cl .none F.c .none) := fun a ha => rep_get (Nat.lt_succ_of_le ha) fun z => by cases z
  have p1 := e2.mp ⟨_, _, h1 f (Nat.le_max_right _ _)⟩
  obtain ⟨u, _, o, ho, hd⟩ := p1
  rw [h1 b (Nat.le_max_left _ _)] at ho
  cases ho
  cases hd
theorem tabs_hide {T : List (Addr × Str)} {cl : List (Str × Addr)} {fr : List Str} {ws : List V} {H : Hp} (C : CellsH cl fr ws H) (t : Tabs T H) : Tabs T (hideH cl H) := fun p hp => by
  obtain ⟨ps, h1, h2, h3⟩ := t p hp
  refine ⟨ps, hide_keep C h1 fun v z => (by unfold CellO at z; cases z), h2, fun pos cv hc => ?_⟩
  obtain ⟨c, e1, e2⟩ := h3 pos cv hc
  exact ⟨c, e1, hide_keep C e2 fun v => code_ne_cell⟩
section
variable {P : Program} {w : World} {K : PySem.W.Frag} {mg : Str → Option Value} {base : Heap} {C : Addr} {T : List (Addr × Str)}
abbrev s_l_done : Stmt := top 8
abbrev N_l_done : List Str := ["_law_rows", "_law_log", "_law_at", "_law_worth"]
theorem sc_l_done : FnScope N_l_done ["_law_rows", "_law_log", "_law_at", "_law_worth"] (defScope s_l_done) := ⟨rfl, rfl, rfl, by decide +kernel, rfl, by decide +kernel, by decide +kernel⟩
theorem ok_done (c_l_next : Cl P w K mg base 3 "_law_next" (spNext C T)) (D : At K mg "_law_done" s_l_done ["_law_rows", "_law_log", "_law_at", "_law_worth"]) : Cl P w K mg base 4 "_law_done" (spDone C T) := by
  refine cl_of (k := 3) D sc_l_done (fun vs H Q E h => ?_) fun f cdv A outer s H vs Q E hr h => ?_
  · obtain ⟨R, L, rws, lg, i, x, rfl, _⟩ := h
    rfl
  · obtain ⟨R, L, rws, lg, i, x, rfl, hR, hL, ne, hl, hT, k⟩ := h
    refine ⟨_, (pss_cons (ps_expr (pe_bm PySem.F.plainAttrs_list PySem.F.slot_list_append PySem.F.type_list_append mt_append (pv 1) (pa_cons (pv 3) pa_nil)))
      (pss_one (ps_ret (pe_c c_l_next hr (by decide) (by rfl) (pa_cons (pv 0) (pa_cons (pv 1) (pa_cons (pe_op op_add (pv 2) pe_int) pa_nil))))))), ?_⟩
    refine ⟨_, rfl, .inl ⟨rfl, _, .inl (.inl hL)⟩, _, rfl, L, _, _, rfl, rfl, hL, Nat.lt_of_le_of_lt (show (lg.map V.int).length ≤ 20000 by rw [List.length_map]; exact hl) (by decide), ?_⟩
    refine ⟨_, rfl, _, rfl, _, rfl, _, _, rfl, rfl, R, L, rws, i + 1, rfl, by rw [upd_ne ne]; exact hR, ⟨_, upd_same⟩, ExtL.tabs hT hL, fun v H' eN T' res => ?_⟩
    exact k v H' (ExtL.put.trans (.of eN)) (by rw [eN _ _ upd_same fun ps z => (by cases z), List.map_append]; rfl) T' res
theorem ok_lam (c_l_done : Cl P w K mg base 4 "_law_done" (spDone C T)) (f : Addr) (cl : List (Str × Addr)) (c : Addr) : LOk P w K mg base 5 f (lamF cl c) lamB ["_law_worth"] frL (spLam C T) := by
  refine lok_of (k := 4) sc_lam (fun pm ctv us hl => match us, hl with | [_], _ => rfl) (fun ws vs H Q E h => ?_) fun A outer s H vs ws Q E hr hf hc CH h => ?_
  · obtain ⟨R, L, rws, lg, i, x, _, rfl, _⟩ := h
    rfl
  · obtain ⟨R, L, rws, lg, i, x, rfl, rfl, hR, hL, ne, hl, hT, k⟩ := h
    refine ⟨_, by exact (pe_c c_l_done hr (by decide) (by rfl) (pa_cons (pv 3) (pa_cons (pv 2) (pa_cons (pv 1) (pa_cons (pv 0) pa_nil))))), ?_⟩
    refine ⟨_, rfl, _, rfl, _, rfl, _, rfl, R, L, rws, lg, i, x, rfl, hide_keep CH hR fun v z => (by unfold CellO at z; cases z), hide_keep CH hL fun v z => (by unfold CellO at z; cases z), ne, hl, tabs_hide CH hT, fun v H' e' hL' T' res frc => ?_⟩
    have s3 : Same H' (expH cl (valOf frL [.int (i : Int), .ref L, .ref R]) H') := fun b o e => expH_keep frc e
    refine k v _ (fun b o e n1 n2 => ?_) (s3 _ _ hL') (T'.ext s3) ((ExtL.same (L := L) s3).res hL' res)
    by_cases hcell : ∃ y, cl.lookup y = some b
    · obtain ⟨y, ey⟩ := hcell
      obtain ⟨j, hj⟩ := List.mem_iff_getElem?.mp (CH.all y b ey)
      obtain ⟨c', v', e1, e2, e3⟩ := CH.has j y hj
      rw [show cl.lookup y = some c' from e1] at ey
      cases ey
      rw [e] at e3
      cases Option.some.inj e3
      rw [expH_cell CH.inj e1]
      have : valOf frL [.int (i : Int), .ref L, .ref R] y = some v' := by
        match j, hj, e2 with
        | 0, hj, e2 => cases hj; exact e2
        | 1, hj, e2 => cases hj; exact e2
        | 2, hj, e2 => cases hj; exact e2
      rw [this]
      rfl
    · refine s3 _ _ (e' b o ?_ n1 n2)
      rw [hideH_other fun y e => hcell ⟨y, e⟩]
      exact e
end
end K12

set_option linter.all false
/-! how deep the data of a tree is; where a name is used -/
namespace Cm
open PySem L2 PySem.Spec PyProof.Rows
def wt (b : Nat) : Hd → Nat
  | .bind _ _ => 3
  | .doo => 2
  | .call => 2
  | .op _ => 2
  | .plain w => if w = "wind" then 1 + b else 1
  | _ => 1
mutual
def Tr.dd (b : Nat) : Tr → Nat
  | .mk h ps => wt b h + Tr.dds b ps
def Tr.dds (b : Nat) : List Tr → Nat
  | [] => 0
  | t :: ts => max (t.dd b) (Tr.dds b ts)
end
theorem dds_le {b n : Nat} : ∀ {ps : List Tr}, Tr.dds b ps ≤ n ↔ ∀ t ∈ ps, t.dd b ≤ n
  | [] => by simp [Tr.dds]
  | t :: ts => by
    have := dds_le (b := b) (n := n) (ps := ts)
    show max (t.dd b) (Tr.dds b ts) ≤ n ↔ _
    rw [Nat.max_le, this]
    simp
theorem wt_pos (b : Nat) (h : Hd) : 1 ≤ wt b h := by
  cases h with
  | plain w =>
    show 1 ≤ (if w = "wind" then 1 + b else 1)
    split <;> omega
  | _ => exact Nat.le_of_ble_eq_true rfl
theorem dd_pos (b : Nat) (t : Tr) : 1 ≤ t.dd b := by
  cases t with
  | mk h ps =>
    have := wt_pos b h
    show 1 ≤ wt b h + Tr.dds b ps
    omega
theorem dep_dd (b : Nat) (t : Tr) : t.dep ≤ t.dd b := by
  refine tr_ind (P := fun t => t.dep ≤ t.dd b) (fun h ps ih => ?_) t
  have h1 := wt_pos b h
  have h2 : Tr.deps ps ≤ Tr.dds b ps := deps_le.mpr fun t m => Nat.le_trans (ih t m) (dds_le.mp (Nat.le_refl _) t m)
  show Tr.deps ps + 1 ≤ wt b h + Tr.dds b ps
  omega
theorem lay_encD {b m : Nat} {h : Hd} {ds : List PyData} (o : hok h ds.length) (f : ∀ d ∈ ds, Lay m d) (p : ds ≠ [] → 1 ≤ m) : Lay (wt b h + m) (encH h ds) := by
  have hw : ∀ w, (w ∈ litW ∨ w ∈ oneW ∨ w ∈ bindW ∨ w ∈ plainW) → ∀ n, Lay n (.str w) := fun w q n => .str (words_sok w (by
    simp only [List.mem_append]
    rcases q with q | q | q | q
    · exact .inl (.inl (.inl q))
    · exact .inl (.inl (.inr q))
    · exact .inl (.inr q)
    · exact .inr q)) _
  have c : ∀ {n : Nat} {d : PyData} {ds : List PyData}, Lay n d → (∀ e ∈ ds, Lay n e) → ∀ e ∈ d :: ds, Lay n e := fun a b e q => by
    rcases List.mem_cons.mp q with rfl | q
    · exact a
    · exact b e q
  have nil : ∀ {n : Nat}, ∀ e ∈ ([] : List PyData), Lay n e := fun e q => by cases q
  have S : ∀ (n : Nat) (w : Str), sok w → Lay n (.str w) := fun n w h => .str h _
  cases h with
  | num i => exact (Lay.tup (n := m) (c (S m "number" (by decide +kernel)) (c (.int i _) nil))).mono (by show m + 1 ≤ 1 + m; omega)
  | name x => exact (Lay.tup (n := m) (c (S m "name" (by decide +kernel)) (c (S m x o.2) nil))).mono (by show m + 1 ≤ 1 + m; omega)
  | lit w => exact (Lay.tup (n := m) (c (hw w (.inl o.2) m) nil)).mono (by show m + 1 ≤ 1 + m; omega)
  | one w x => exact (Lay.tup (n := m) (c (hw w (.inr (.inl o.2.1)) m) (c (S m x o.2.2) f))).mono (by show m + 1 ≤ 1 + m; omega)
  | fn xs =>
    have p1 := p (fun z => by rw [z] at o; exact absurd o.1 (by decide))
    obtain ⟨m', rfl⟩ : ∃ m', m = m' + 1 := ⟨m - 1, by omega⟩
    exact (Lay.tup (n := m' + 1) (c (S _ "fn" (by decide +kernel)) (c (lay_strs o.2.2 m') f))).mono (by show m' + 1 + 1 ≤ 1 + (m' + 1); omega)
  | bind w xs =>
    refine (Lay.tup (n := m + 2) (c (hw w (.inr (.inr (.inl o.2.1))) _) (c (Lay.tup (n := m + 1) fun d hd => ?_) fun d hd => (f d (List.mem_of_mem_drop hd)).mono (by omega)))).mono (by show m + 2 + 1 ≤ 3 + m; omega)
    obtain ⟨q, hq, rfl⟩ := List.mem_map.mp hd
    have hz := List.of_mem_zip (show (q.1, q.2) ∈ xs.zip ds from hq)
    refine Lay.tup (n := m) fun d hd => ?_
    simp only [List.mem_cons, List.not_mem_nil, or_false] at hd
    rcases hd with rfl | rfl
    · exact .str (o.2.2 _ hz.1) _
    · exact f _ hz.2
  | doo => exact (Lay.tup (n := m + 1) (c (S _ "do" (by decide +kernel)) (c (Lay.tup f) nil))).mono (by show m + 1 + 1 ≤ 2 + m; omega)
  | call =>
    refine (Lay.tup (n := m + 1) (c (S _ "call" (by decide +kernel)) fun d hd => ?_)).mono (by show m + 1 + 1 ≤ 2 + m; omega)
    rcases List.mem_append.mp hd with hd | hd
    · exact (f d (List.mem_of_mem_take hd)).mono (by omega)
    · cases List.mem_singleton.mp hd
      exact Lay.tup fun d q => f d (List.mem_of_mem_drop q)
  | op o' => exact (Lay.tup (n := m + 1) (c (S _ "op" (by decide +kernel)) (c (S _ o' o) (c (Lay.tup f) nil)))).mono (by show m + 1 + 1 ≤ 2 + m; omega)
  | plain w => exact (Lay.tup (n := m) (c (hw w (.inr (.inr (.inr o))) m) f)).mono (by have := wt_pos b (.plain w); omega)
theorem lay_dd (b : Nat) (t : Tr) : t.ok → Lay (t.dd b) t.enc := by
  refine tr_ind (P := fun t => t.ok → Lay (t.dd b) t.enc) (fun h ps ih o => ?_) t
  have o' : hok h ps.length ∧ ps.length ≤ 11 ∧ Tr.oks ps := o
  show Lay (wt b h + Tr.dds b ps) (encH h (Tr.encL ps))
  refine lay_encD (by rw [encL_len]; exact o'.1) (fun d hd => ?_) fun z => ?_
  · rw [encL_map] at hd
    obtain ⟨u, m, rfl⟩ := List.mem_map.mp hd
    exact (ih u m (oks_iff.mp o'.2.2 u m)).mono (dds_le.mp (Nat.le_refl _) u m)
  · cases ps with
    | nil => exact absurd rfl z
    | cons u r =>
      have := dd_pos b u
      show 1 ≤ max (u.dd b) (Tr.dds b r)
      omega
/-! ### where a name is used -/
def baseU (x : Str) : Hd → List (List Int × Str)
  | .name y => if y = x then [([], "read")] else []
  | .one w y => if w = "set" ∧ y = x then [([], "set")] else []
  | _ => []
def isNm (x : Str) : Hd → Bool
  | .name y => decide (y = x)
  | _ => false
/-- the called part of a call of one argument that is a name -/
def cal (h : Hd) (n i : Nat) (t : Tr) : Bool := isCall h && decide (n = 2) && decide (i = 0) && isName t.hd
def hw (c : Bool) (s : Str) : Str := if c = true then "called" else s
mutual
def Tr.uses (x : Str) : Tr → List (List Int × Str)
  | .mk h ps => baseU x h ++ Tr.usesL x h ps.length 0 ps
def Tr.usesL (x : Str) (h : Hd) (n : Nat) : Nat → List Tr → List (List Int × Str)
  | _, [] => []
  | i, t :: ts => (if x ∈ under h n i then [] else (t.uses x).map fun p => (((i : Nat) : Int) :: p.1, hw (cal h n i t) p.2)) ++ Tr.usesL x h n (i + 1) ts
end
def rawL (x : Str) (h : Hd) (n : Nat) : Nat → List Tr → List (List Int × Str)
  | _, [] => []
  | i, t :: ts => (if x ∈ under h n i then [] else (t.uses x).map fun p => (((i : Nat) : Int) :: p.1, p.2)) ++ rawL x h n (i + 1) ts
theorem usesL_snoc (x : Str) (h : Hd) (n : Nat) (t : Tr) : ∀ (ts : List Tr) (i : Nat), Tr.usesL x h n i (ts ++ [t]) = Tr.usesL x h n i ts ++ (if x ∈ under h n (i + ts.length) then [] else (t.uses x).map fun p => (((i + ts.length : Nat) : Int) :: p.1, hw (cal h n (i + ts.length) t) p.2))
  | [], i => by
    show (if x ∈ under h n i then [] else _) ++ [] = [] ++ _
    simp
  | a :: ts, i => by
    show (if x ∈ under h n i then [] else _) ++ Tr.usesL x h n (i + 1) (ts ++ [t]) = ((if x ∈ under h n i then [] else _) ++ Tr.usesL x h n (i + 1) ts) ++ _
    rw [usesL_snoc x h n t ts (i + 1), List.append_assoc, List.length_cons, show i + 1 + ts.length = i + (ts.length + 1) by omega]
theorem rawL_snoc (x : Str) (h : Hd) (n : Nat) (t : Tr) : ∀ (ts : List Tr) (i : Nat), rawL x h n i (ts ++ [t]) = rawL x h n i ts ++ (if x ∈ under h n (i + ts.length) then [] else (t.uses x).map fun p => (((i + ts.length : Nat) : Int) :: p.1, p.2))
  | [], i => by
    show (if x ∈ under h n i then [] else _) ++ [] = [] ++ _
    simp
  | a :: ts, i => by
    show (if x ∈ under h n i then [] else _) ++ rawL x h n (i + 1) (ts ++ [t]) = ((if x ∈ under h n i then [] else _) ++ rawL x h n (i + 1) ts) ++ _
    rw [rawL_snoc x h n t ts (i + 1), List.append_assoc, List.length_cons, show i + 1 + ts.length = i + (ts.length + 1) by omega]
theorem raw_eq {x : Str} {h : Hd} {n : Nat} : ∀ {ts : List Tr} {i : Nat}, (∀ j t, ts[j]? = some t → cal h n (i + j) t = true → t.uses x = []) → rawL x h n i ts = Tr.usesL x h n i ts
  | [], _, _ => rfl
  | t :: ts, i, q => by
    show (if x ∈ under h n i then [] else _) ++ rawL x h n (i + 1) ts = (if x ∈ under h n i then [] else _) ++ Tr.usesL x h n (i + 1) ts
    have e1 := raw_eq (x := x) (h := h) (n := n) (ts := ts) (i := i + 1) fun j t' e c => q (j + 1) t' (by simpa using e) (by rw [show i + (j + 1) = i + 1 + j by omega]; exact c)
    rw [e1]
    congr 1
    by_cases m : x ∈ under h n i
    · rw [if_pos m, if_pos m]
    · rw [if_neg m, if_neg m]
      by_cases c : cal h n i t = true
      · rw [q 0 t rfl c]; rfl
      · refine List.map_congr_left fun p _ => ?_
        show _ = (((i : Nat) : Int) :: p.1, (if cal h n i t = true then "called" else p.2 : Str))
        rw [if_neg c]
theorem baseU_len (x : Str) (h : Hd) : (baseU x h).length ≤ 1 := by
  cases h with
  | name y => show (if y = x then [([], "read")] else [] : List (List Int × Str)).length ≤ 1; split <;> simp
  | one w y => show (if w = "set" ∧ y = x then [([], "set")] else [] : List (List Int × Str)).length ≤ 1; split <;> simp
  | _ => exact Nat.zero_le _
mutual
theorem uses_len (x : Str) : ∀ t : Tr, (t.uses x).length ≤ t.size
  | .mk h ps => by
    have h1 := baseU_len x h
    have h2 := usesL_len x h ps.length 0 ps
    show (baseU x h ++ Tr.usesL x h ps.length 0 ps).length ≤ Tr.sizes ps + 1
    rw [List.length_append]
    omega
theorem usesL_len (x : Str) (h : Hd) (n : Nat) : ∀ (i : Nat) (ts : List Tr), (Tr.usesL x h n i ts).length ≤ Tr.sizes ts
  | _, [] => Nat.le_refl _
  | i, t :: ts => by
    have h1 := uses_len x t
    have h2 := usesL_len x h n (i + 1) ts
    show ((if x ∈ under h n i then [] else _) ++ Tr.usesL x h n (i + 1) ts).length ≤ t.size + Tr.sizes ts
    rw [List.length_append]
    split
    · simp only [List.length_nil]; omega
    · rw [List.length_map]; omega
end
theorem rawL_len (x : Str) (h : Hd) (n : Nat) : ∀ (i : Nat) (ts : List Tr), (rawL x h n i ts).length ≤ Tr.sizes ts
  | _, [] => Nat.le_refl _
  | i, t :: ts => by
    have h1 := uses_len x t
    have h2 := rawL_len x h n (i + 1) ts
    show ((if x ∈ under h n i then [] else _) ++ rawL x h n (i + 1) ts).length ≤ t.size + Tr.sizes ts
    rw [List.length_append]
    split
    · simp only [List.length_nil]; omega
    · rw [List.length_map]; omega
def useD (p : List Int × Str) : PyData := .tuple [pathI p.1, .str p.2]
theorem flat_useD (p : List Int × Str) : flatD (useD p) = true := by
  have := flatDs_ints p.1
  simp [useD, pathI, flatD, flatDs, this]
theorem flat_usesD (l : List (List Int × Str)) : flatDs (l.map useD) = true := flatDs_of _ fun d hd => by
  obtain ⟨p, _, rfl⟩ := List.mem_map.mp hd
  exact flat_useD p
mutual
theorem use_ok (x : Str) : ∀ t : Tr, ∀ p ∈ t.uses x, p.1.length ≤ t.size ∧ sok p.2
  | .mk h ps, p, m => by
    have m' : p ∈ baseU x h ++ Tr.usesL x h ps.length 0 ps := m
    rcases List.mem_append.mp m' with m' | m'
    · cases h with
      | name y =>
        have m2 : p ∈ (if y = x then [([], "read")] else [] : List (List Int × Str)) := m'
        split at m2
        · rw [List.mem_singleton.mp m2]; exact ⟨Nat.zero_le _, by decide +kernel⟩
        · cases m2
      | one w y =>
        have m2 : p ∈ (if w = "set" ∧ y = x then [([], "set")] else [] : List (List Int × Str)) := m'
        split at m2
        · rw [List.mem_singleton.mp m2]; exact ⟨Nat.zero_le _, by decide +kernel⟩
        · cases m2
      | _ => cases m'
    · have := useL_ok x h ps.length 0 ps p m'
      exact ⟨by show p.1.length ≤ Tr.sizes ps + 1; omega, this.2⟩
theorem useL_ok (x : Str) (h : Hd) (n : Nat) : ∀ (i : Nat) (ts : List Tr), ∀ p ∈ Tr.usesL x h n i ts, p.1.length ≤ Tr.sizes ts + 1 ∧ sok p.2
  | _, [], _, m => by cases m
  | i, t :: ts, p, m => by
    have m' : p ∈ (if x ∈ under h n i then [] else (t.uses x).map fun p => (((i : Nat) : Int) :: p.1, hw (cal h n i t) p.2)) ++ Tr.usesL x h n (i + 1) ts := m
    rcases List.mem_append.mp m' with m' | m'
    · split at m'
      · cases m'
      · obtain ⟨q, hq, rfl⟩ := List.mem_map.mp m'
        have := use_ok x t q hq
        refine ⟨?_, ?_⟩
        · show q.1.length + 1 ≤ t.size + Tr.sizes ts + 1
          omega
        · show sok (if cal h n i t = true then "called" else q.2 : Str)
          split
          · decide +kernel
          · exact this.2
    · have := useL_ok x h n (i + 1) ts p m'
      exact ⟨by show p.1.length ≤ t.size + Tr.sizes ts + 1; omega, this.2⟩
end
/-- the first use of a call of a name -/
theorem raw_call {x : Str} {y : Str} {b : Tr} (e : y = x) : ∃ r : List (List Int × Str), rawL x .call 2 0 [.mk (.name y) [], b] = ([0], ("read" : Str)) :: r ∧ Tr.usesL x .call 2 0 [.mk (.name y) [], b] = ([0], ("called" : Str)) :: r := by
  refine ⟨(b.uses x).map fun p => (((1 : Nat) : Int) :: p.1, p.2), ?_, ?_⟩
  · show (if x ∈ under .call 2 0 then [] else ((Tr.mk (.name y) []).uses x).map _) ++ ((if x ∈ under .call 2 1 then [] else _) ++ []) = _
    have e1 : (Tr.mk (.name y) []).uses x = [([], ("read" : Str))] := by
      show (if y = x then [([], "read")] else [] : List (List Int × Str)) ++ [] = _
      rw [if_pos e]; rfl
    rw [if_neg (by intro z; cases z), if_neg (by intro z; cases z), e1, List.append_nil]
    rfl
  · show (if x ∈ under .call 2 0 then [] else ((Tr.mk (.name y) []).uses x).map _) ++ ((if x ∈ under .call 2 1 then [] else _) ++ []) = _
    have e1 : (Tr.mk (.name y) []).uses x = [([], ("read" : Str))] := by
      show (if y = x then [([], "read")] else [] : List (List Int × Str)) ++ [] = _
      rw [if_pos e]; rfl
    rw [if_neg (by intro z; cases z), if_neg (by intro z; cases z), e1, List.append_nil]
    rfl
theorem enc_hd (h : Hd) (ds : List PyData) : ∃ r, encH h ds = .tuple (.str (wd h) :: r) ∧ (∀ y, h = .name y → r = [.str y]) := by
  cases h with
  | name y => exact ⟨_, rfl, fun z e => by cases e; rfl⟩
  | _ => exact ⟨_, rfl, fun z e => by cases e⟩
theorem eq_nameT {h : Hd} {n : Nat} (o : hok h n) (ds : List PyData) (x : Str) : PyData.eqv (encH h ds) (.tuple [.str "name", .str x]) = isNm x h := by
  obtain ⟨r, e, er⟩ := enc_hd h ds
  rw [e]
  have e2 := eq_name o
  rw [decS] at e2
  by_cases q : isName h = true
  · cases h with
    | name y =>
      rw [er y rfl]
      show PyData.eqvAll [.str "name", .str y] [.str "name", .str x] = decide (y = x)
      simp [PyData.eqvAll, PyData.eqv]
      by_cases z : y = x <;> simp [z]
    | _ => cases q
  · have q' : isName h = false := by cases z : isName h with | true => exact absurd z q | false => rfl
    rw [q'] at e2
    have q2 : ¬ wd h = "name" := of_decide_eq_false e2
    have q3 : isNm x h = false := by
      cases h with
      | name y => exact absurd rfl q
      | _ => rfl
    rw [q3]
    show PyData.eqvAll (.str (wd h) :: r) [.str "name", .str x] = false
    simp [PyData.eqvAll, PyData.eqv, q2]
/-- a name that is no longer free is not used -/
theorem cal_no {x : Str} {t : Tr} (o : t.ok) (n : isName t.hd = true) (e : isNm x t.hd = false) : t.uses x = [] := by
  cases t with
  | mk h ps =>
    have o' : hok h ps.length ∧ ps.length ≤ 11 ∧ Tr.oks ps := o
    cases h with
    | name y =>
      have e0 : ps = [] := List.length_eq_zero_iff.mp o'.1.1
      subst e0
      have e' : ¬ y = x := of_decide_eq_false e
      show (if y = x then [([], "read")] else [] : List (List Int × Str)) ++ [] = []
      rw [if_neg e']; rfl
    | _ => cases n

/-! ### small facts on parts -/
theorem okP {h : Hd} {ps : List Tr} (o : (Tr.mk h ps).ok) : hok h ps.length ∧ ps.length ≤ 11 ∧ ∀ t ∈ ps, t.ok := by
  have o' : hok h ps.length ∧ ps.length ≤ 11 ∧ Tr.oks ps := o
  exact ⟨o'.1, o'.2.1, fun t m => oks_iff.mp o'.2.2 t m⟩
theorem encLat {ps : List Tr} {i : Nat} {d : PyData} (h : (Tr.encL ps)[i]? = some d) : ∃ c, ps[i]? = some c ∧ d = c.enc := by
  rw [encL_map] at h
  obtain ⟨c, e1, e2⟩ := map_at h
  exact ⟨c, e1, e2⟩
theorem takeNext {α : Type} {xs : List α} {i : Nat} {c : α} (h : xs[i]? = some c) : xs.take (i + 1) = xs.take i ++ [c] ∧ (xs.take i).length = i := by
  refine ⟨by rw [List.take_add_one, h]; rfl, ?_⟩
  have := (List.getElem?_eq_some_iff.mp h).1
  rw [List.length_take]
  omega
theorem encsInv {K : PySem.W.Frag} {H : Hp} {v : V} {xs : List Str} (h : Dp K H v (encs xs)) : ∃ q, v = .ref q ∧ SqT K H q (xs.map V.str) := by
  obtain ⟨q, vs, rfl, hq, hv⟩ := dp_tup h
  rw [dpAll_strs_inv hv] at hq
  exact ⟨q, rfl, hq⟩
theorem sizeMem {t : Tr} : ∀ {ps : List Tr}, t ∈ ps → t.size ≤ Tr.sizes ps
  | a :: ps, h => by
    show t.size ≤ a.size + Tr.sizes ps
    rcases List.mem_cons.mp h with rfl | h
    · omega
    · have := sizeMem h
      omega
theorem sizesTake : ∀ (ps : List Tr) (i : Nat), Tr.sizes (ps.take i) ≤ Tr.sizes ps
  | [], i => by rw [List.take_nil]; exact Nat.le_refl _
  | a :: ps, 0 => Nat.zero_le _
  | a :: ps, i + 1 => by
    have := sizesTake ps i
    show a.size + Tr.sizes (ps.take i) ≤ a.size + Tr.sizes ps
    omega
theorem useD_inv {K : PySem.W.Frag} {H : Hp} {v : V} {p : List Int × Str} (h : Dp K H v (useD p)) : ∃ a b, v = .ref a ∧ SqT K H a [.ref b, .str p.2] ∧ SqT K H b (p.1.map V.int) := by
  obtain ⟨a, its, rfl, hs, hi⟩ := dp_tup h
  cases hi with
  | cons h1 h2 =>
    cases h2 with
    | cons h3 h4 =>
      cases h4
      obtain ⟨b, rfl, hb⟩ := pathI_inv h1
      rw [dp_str h3] at hs
      exact ⟨a, b, rfl, hs, hb⟩
theorem dp_useD {K : PySem.W.Frag} {H : Hp} {a b : Addr} {p : List Int × Str} (h : SqT K H a [.ref b, .str p.2]) (hb : SqT K H b (p.1.map V.int)) : Dp K H (.ref a) (useD p) :=
  .tup h (.cons (dp_pathI hb) (.cons (.str _) .nil))
theorem name_only {x : Str} {h : Hd} {ps : List Tr} (o : hok h ps.length) (e : isNm x h = true) : h = .name x ∧ ps = [] := by
  cases h with
  | name y =>
    rw [of_decide_eq_true (show decide (y = x) = true from e)]
    exact ⟨rfl, List.length_eq_zero_iff.mp o.1⟩
  | _ => cases e
end Cm

namespace K12
open PySem L2 Cm PyProof.Rows LamX NdefX
theorem while_rel {c : TT} {tb : TS} {D : Ends} {σ : L2.St} {H : Hp} (W : Nat → L2.St → Hp → Prop) (h0 : ∃ m, W m σ H)
    (hs : ∀ m σ H, W m σ H → c σ H fun b H1 => if b = true then tb { D with nx := fun σ' H' => ∃ m', m' < m ∧ W m' σ' H', ct := fun σ' H' => ∃ m', m' < m ∧ W m' σ' H', bk := D.nx } σ H1 else D.nx σ H1)
    (mono : ∀ σ H Q Q', (∀ b H1, Q b H1 → Q' b H1) → c σ H Q → c σ H Q') : tWhile c tb D σ H := by
  refine ⟨W, h0, fun m σ H p => mono σ H _ _ (fun b H1 q => ?_) (hs m σ H p)⟩
  cases b with
  | true => exact ⟨_, fun σ' H' z => z, q⟩
  | false => exact q
def spRun (K : PySem.W.Frag) (C : Addr) (T : List (Addr × Str)) : Sp := fun vs H Q _ => ∃ (R L : Addr) (rws lg : List Int) (i : Nat) (v : V) (m : Nat), vs = [v, .int (m : Int)] ∧ H R = some (.lst (rws.map V.int)) ∧ H L = some (.lst (lg.map V.int)) ∧ R ≠ L ∧ lg.length + rws.length ≤ 20000 ∧ i ≤ rws.length ∧ Tabs T H ∧ Res C R L rws i v H ∧
  ∀ (r : Addr) (v' : V) (H' : Hp), ExtL L H H' → H' L = some (.lst ((lg ++ (rws.drop i).take (min m (rws.length - i))).map V.int)) → Tabs T H' → Res C R L rws (i + min m (rws.length - i)) v' H' → SqT K H' r [.int (min m (rws.length - i) : Nat), v'] → Q (.ref r) H'
section
variable {P : Program} {w : World} {K : PySem.W.Frag} {mg : Str → Option Value} {base : Heap} {C : Addr} {T : List (Addr × Str)}
abbrev s_p_run_bounces : Stmt := top 2
abbrev N_p_run_bounces : List Str := ["bounce", "most", "many", "deed"]
theorem sc_p_run_bounces : FnScope N_p_run_bounces ["bounce", "most"] (defScope s_p_run_bounces) := ⟨rfl, rfl, rfl, by decide +kernel, rfl, by decide +kernel, by decide +kernel⟩
theorem ok_run (TC : ClsT K mg "Bounce" C namesB) (c_l_done : Cl P w K mg base 4 "_law_done" (spDone C T)) {f : Addr} {fd : FuncData} (F : FunD K "run_bounces" "run_bounces" (defArgs s_p_run_bounces) (defBody s_p_run_bounces) (defScope s_p_run_bounces) [.int 1000000] [] f fd) : FnOk P w K mg base CX0 6 f fd ["bounce", "most"] (spRun K C T) := by
  refine F.ok (k := 5) sc_p_run_bounces (fun vs H Q E h => ?_) fun cdv A outer s H vs Q E hr h => ?_
  · obtain ⟨R, L, rws, lg, i, v, m, rfl, _⟩ := h
    rfl
  · obtain ⟨R, L, rws, lg, i, v, mm, rfl, hR, hL, ne, hl, hi, hT, res, k⟩ := h
    refine ⟨_, (pss_cons (ps_set (i := 2) sc_p_run_bounces.nd rfl (Or.inl rfl) pe_int)
      (pss_cons (ps_while (passes_of rfl) (PW.pt (pw_and (pt_cmpR op_notN (pv 0) pe_non (nomark _)) (pw_and1 (pt_cmpR op_lt (pv 2) (pv 1) (nomark _)))))
        (pss_cons (ps_set (i := 3) sc_p_run_bounces.nd rfl (Or.inl rfl) (pe_fld (pv 0) rfl))
        (pss_cons (ps_set (i := 0) sc_p_run_bounces.nd rfl (Or.inl rfl) (pe_callL (i := 3) (fun f cl c => ok_lam c_l_done f cl c) hr (by decide) rfl (Or.inl rfl) (pa_cons (pe_fld (pv 0) rfl) pa_nil)))
        (pss_one (ps_aug (i := 2) sc_p_run_bounces.nd rfl (Or.inl rfl) pe_int ip_add)))))
      (pss_one (ps_ret (pe_tup (pa_cons (pv 2) (pa_cons (pv 0) pa_nil))))))), ?_⟩
    obtain ⟨n, en⟩ : ∃ n, n = min mm (rws.length - i) := ⟨_, rfl⟩
    rw [← en] at k
    have hn1 : n ≤ mm := by omega
    have hn2 : n ≤ rws.length - i := by omega
    refine while_rel (fun m σ H' => ∃ (j : Nat) (v' : V) (v3 : Option V), σ = [some v', some (.int (mm : Int)), some (.int (j : Int)), v3] ∧ m = n - j ∧ j ≤ n ∧ ExtL L H H' ∧ H' L = some (.lst ((lg ++ (rws.drop i).take j).map V.int)) ∧ Tabs T H' ∧ Res C R L rws (i + j) v' H') ?_ ?_ ?_
    · exact ⟨_, 0, v, none, rfl, rfl, Nat.zero_le _, ExtL.refl _ _, by rw [List.take_zero, List.append_nil]; exact hL, hT, res⟩
    · rintro m σ H1 ⟨j, v', v3, rfl, rfl, hj, eL, hL1, hT1, res1⟩
      have fin : j = n → tRet (tTup (tCons (tVar 2) (tCons (tVar 0) tNil))) { nx := fun _ H' => Q .non H', rt := Q } [some v', some (.int (mm : Int)), some (.int (j : Int)), v3] H1 := fun e => by
        subst e
        refine ⟨_, rfl, _, rfl, by show 2 ≤ sizeLine; decide, fun p hp => ?_⟩
        have s2 := same_new (o := .tup [.int (j : Int), v']) hp
        exact k p v' _ (eL.trans (.same s2)) (s2 _ _ hL1) (hT1.ext s2) ((ExtL.same (L := L) s2).res hL1 res1) (.inl (.inl upd_same))
      refine ⟨_, rfl, rfl, _, rfl, ?_⟩
      rcases res1 with ⟨hlen, rfl⟩ | ⟨b, x, ex, rfl, bo⟩
      · show if (!decide (V.non = V.non)) = true then _ else _
        rw [decide_eq_true rfl]
        exact iteF (iteF (fin (by omega)))
      · have e1 : decide (V.ref b = V.non) = false := by simp
        rw [e1]
        refine iteT ⟨_, rfl, _, rfl, _, _, rfl, rfl, _, rfl, ?_⟩
        by_cases z : (j : Int) < (mm : Int)
        · rw [decide_eq_true z]
          have hx : i + j < rws.length := (List.getElem?_eq_some_iff.mp ex).1
          have bo' := bo
          obtain ⟨dx, g, cl, c, h1, h2, h3, CH⟩ := bo
          have hR1 := eL _ _ hR (fun ps z => by cases z) ne
          refine iteT ⟨_, rfl, b, C, dx, _, .ref g, rfl, h1, TC.ins.cl, TC.no _ (by decide +kernel), rfl, ?_⟩
          refine ⟨g, cl, c, rfl, h2, _, rfl, b, C, dx, _, .int x, rfl, h1, TC.ins.cl, TC.no _ (by decide +kernel), rfl, h2, h3, _, CH, R, L, rws, lg ++ (rws.drop i).take j, i + j, x, rfl, rfl, hR1, hL1, ne, by rw [List.length_append, List.length_take, List.length_drop]; omega, hT1, fun v2 H2 e2 hL2 hT2 res2 => ?_⟩
          have ed : (rws.drop i)[j]? = some x := by rw [List.getElem?_drop]; exact ex
          have tk := (takeNext ed).1
          refine ⟨_, rfl, _, _, rfl, rfl, ?_⟩
          have hjn : j < n := by omega
          exact ⟨n - (j + 1), by omega, j + 1, v2, some (.ref g), rfl, rfl, hjn, eL.trans e2, by rw [hL2, tk, List.append_assoc], hT2, res2⟩
        · rw [decide_eq_false z]
          exact iteF (fin (by omega))
    · rintro σ H Q Q' h q
      obtain ⟨x, hx, e1, b1, eb, q⟩ := q
      refine ⟨x, hx, e1, b1, eb, ?_⟩
      cases b1 with
      | false => exact iteF (h _ _ q)
      | true =>
        obtain ⟨y, hy, z, hz, a1, a2, f1, f2, b2, f3, q⟩ := (show _ from q)
        exact iteT ⟨y, hy, z, hz, a1, a2, f1, f2, b2, f3, h _ _ q⟩
end
end K12

namespace K12
open PySem L2 Cm PyProof.Rows LamX NdefX
def spTold (K : PySem.W.Frag) (C : Addr) : Sp := fun vs H Q _ => ∃ (R L r l : Addr) (rws : List Int) (i n : Nat) (v : V), vs = [.ref r, .int (n : Int), .ref l] ∧ SqT K H r [.int (n : Int), v] ∧ H l = some (.lst ((rws.drop i).map V.int)) ∧ Res C R L rws i v H ∧ rws.length ≤ 20000 ∧ ∀ H', Same H H' → Q (.bl true) H'
theorem ints_eqv_nil (l : List Int) : PyData.eqv (.list (l.map PyData.int)) (.list []) = l.isEmpty := by
  cases l <;> rfl
theorem dp_intsL {K : PySem.W.Frag} {H : Hp} : ∀ l : List Int, DpAll K H (l.map V.int) (l.map PyData.int)
  | [] => .nil
  | x :: l => .cons (.int x) (dp_intsL l)
theorem ints_sh (l : List Int) : SeqAt.shaped (.list (l.map PyData.int)) = true := (Lay.lst (n := 0) fun d m => by
  obtain ⟨x, _, rfl⟩ := List.mem_map.mp m
  exact .int x 0).sh (by decide)
section
variable {P : Program} {w : World} {K : PySem.W.Frag} {mg : Str → Option Value} {base : Heap} {C : Addr} {T : List (Addr × Str)}
abbrev s_l_told : Stmt := top 9
abbrev N_l_told : List Str := ["_law_told_here", "_law_due", "_law_left"]
theorem sc_l_told : FnScope N_l_told ["_law_told_here", "_law_due", "_law_left"] (defScope s_l_told) := ⟨rfl, rfl, rfl, by decide +kernel, rfl, by decide +kernel, by decide +kernel⟩
theorem ok_told (Tx : Txt mg) (tb : mg "bool" = none) (TC : ClsT K mg "Bounce" C namesB) (D : At K mg "_law_told" s_l_told ["_law_told_here", "_law_due", "_law_left"]) : Cl P w K mg base 1 "_law_told" (spTold K C) := by
  refine cl_of D sc_l_told (fun vs H Q E h => ?_) fun f cdv A outer s H vs Q E hr h => ?_
  · obtain ⟨R, L, r, l, rws, i, n, v, rfl, _⟩ := h
    rfl
  · obtain ⟨R, L, r, l, rws, i, n, v, rfl, hr', hl, res, hlen, k⟩ := h
    refine ⟨_, (pss_cons (ps_if (PW.pt (pw_or (pt_not (pt_val (pe_callB call_isi (by rfl) Tx.isinstance (by decide +kernel) (pa_cons (pv 0) (pa_cons (pe_bltn (v := .ty "tuple") (by rfl) Tx.tuple (by rfl) (show RelV (.ty "tuple") (.type "tuple") from rfl)) pa_nil))))) (pw_or (pt_cmpR op_ne (pe_callB call_len_seq (by rfl) Tx.len (by decide +kernel) (pa_cons (pv 0) pa_nil)) pe_int (nomark _)) (pw_or (pt_val (pe_callB call_isi (by rfl) Tx.isinstance (by decide +kernel) (pa_cons (pe_ix ix_tup (pv 0) pe_int (fun _ _ => rfl)) (pa_cons (pe_bltn (v := .ty "bool") (by rfl) tb (by rfl) (show RelV (.ty "bool") (.type "bool") from rfl)) pa_nil)))) (pw_or1 (pt_cmpR op_ne (pe_ix ix_tup (pv 0) pe_int (fun _ _ => rfl)) (pv 1) (nomark _)))))))
        (pss_one (ps_ret pe_bl))
        pss_nil)
      (pss_cons (ps_if (pt_cmpR (op_eqD hr.units) (pv 2) (pe_lst pa_nil) (nomark _))
        (pss_one (ps_ret (pe_cmpR op_isN (pe_ix ix_tup (pv 0) pe_int (fun _ _ => rfl)) pe_non (nomark _))))
        pss_nil)
      (pss_one (ps_ret (pe_and (pe_cmpR op_notN (pe_ix ix_tup (pv 0) pe_int (fun _ _ => rfl)) pe_non (nomark _)) (pe_one (pe_cmpR op_eq (pe_fld (pe_ix ix_tup (pv 0) pe_int (fun _ _ => rfl)) rfl) (pe_ix ix_list (pv 2) pe_int (fun _ _ => rfl)) (nomark _)))))))), ?_⟩
    refine ⟨_, rfl, _, _, _, _, true, rfl, .ty _, tyx_tup hr', kit_tup, _, rfl, iteF ?_⟩
    refine ⟨_, rfl, r, _, rfl, .inr hr', rfl, _, rfl, ?_⟩
    rw [decide_eq_true (show V.int (([V.int (n : Int), v].length : Nat) : Int) = V.int 2 from rfl)]
    refine iteF ⟨_, rfl, r, _, _, _, rfl, rfl, hr', atI_nat (j := 0) rfl, _, _, _, _, false, rfl, .ty _, .base (.int _), rfl, _, rfl, iteF ?_⟩
    refine ⟨_, rfl, r, _, _, _, rfl, rfl, hr', atI_nat (j := 0) rfl, _, rfl, rfl, _, rfl, ?_⟩
    rw [decide_eq_true rfl]
    refine iteF ?_
    refine ⟨_, rfl, by show 0 ≤ sizeLine; decide, fun p hp => ?_⟩
    have s1 := same_new (o := .lst []) hp
    refine ⟨.list ((rws.drop i).map PyData.int), .list [], .lst (.inl (.inl (s1 _ _ hl))) (dp_intsL _), .lst (.inl (.inl upd_same)) .nil, ints_sh _, by decide +kernel, _, rfl, ?_⟩
    rw [ints_eqv_nil]
    rcases res with ⟨hle, rfl⟩ | ⟨b, x, ex, rfl, bo⟩
    · rw [List.drop_eq_nil_of_le hle]
      refine iteT ⟨_, rfl, r, _, _, _, rfl, rfl, sqt_same s1 hr', atI_nat (j := 1) rfl, rfl, ?_⟩
      rw [decide_eq_true rfl]
      exact k _ s1
    · have hi : i < rws.length := (List.getElem?_eq_some_iff.mp ex).1
      have ed : (rws.drop i)[0]? = some x := by rw [List.getElem?_drop, Nat.add_zero]; exact ex
      have e0 : (rws.drop i).isEmpty = false := by
        cases eq : rws.drop i with
        | nil => rw [eq] at ed; cases ed
        | cons _ _ => rfl
      rw [e0]
      obtain ⟨dx, g, cl, c, h1, h2, h3, CH⟩ := bo
      refine iteF ⟨_, rfl, r, _, _, _, rfl, rfl, sqt_same s1 hr', atI_nat (j := 1) rfl, rfl, _, rfl, ?_⟩
      have e1 : decide (V.ref b = V.non) = false := by simp
      rw [e1]
      refine iteT ⟨_, rfl, r, _, _, _, rfl, rfl, sqt_same s1 hr', atI_nat (j := 1) rfl, b, C, dx, _, .int x, rfl, s1 _ _ h1, TC.ins.cl, TC.no _ (by decide +kernel), rfl, ?_⟩
      refine ⟨_, rfl, l, _, _, .int x, rfl, rfl, .inl (.inl (s1 _ _ hl)), atI_nat (j := 0) (by rw [List.getElem?_map, ed]; rfl), rfl, ?_⟩
      rw [decide_eq_true rfl]
      exact k _ s1
end
end K12

namespace K12
open PySem L2 Cm PyProof.Rows LamX NdefX
/-- run_bounces as it may be called -/
structure ClR (P : Program) (w : World) (K : PySem.W.Frag) (mg : Str → Option Value) (base : Heap) (k : Nat) (x : Str) (sp : Sp) : Prop where
  full : Cl P w K mg base k x sp
  dft : ∃ (f : Addr) (fd : FuncData) (ps : List Str) (ds : List Value), FnOk P w K mg base CX0 k f fd ps sp ∧ mg x = some (.ref f) ∧ PySem.W.keepIn K (.ref f) = true ∧ Binds K fd ps ds ∧ Vals [V.int 1000000] ds
  kw : ∃ (f : Addr) (fd : FuncData) (ps : List Str), FnOk P w K mg base CX0 k f fd ps sp ∧ mg x = some (.ref f) ∧ PySem.W.keepIn K (.ref f) = true ∧ KBn K fd ps 1 ["most"] (fun us ws => us ++ ws) (fun vs zs => vs ++ zs)
section
variable {X : Cx} {j k : Nat} {x : Str} {sp : Sp} {e : Expr} {es : List Expr} {kws : List Keyword} {t tk : TA} {p pos : Pos}
theorem pe_rD (c : ClR X.prog X.w X.K X.mg X.base k x sp) (hr : Room j X.A) (hk : k ≤ j) (hg : Gl X x) (ha : PA X (e :: es) t)
    (hdb : (x == ("__debug__" : Str)) = false := by decide) (he : starEach (e :: es) X.env = (false, eval e X.env) :: starEach es X.env := by rfl)
    (hpl : (backTo pos (starEach es X.env)).any (·.1) = false := by rfl) : PE X (.Call (.Name x p) (e :: es) [] pos) (tCall sp [V.int 1000000] E0 t) := by
  obtain ⟨f, fd, ps, ds, F, hm, kp, b, v⟩ := c.dft
  exact pe_call F (hr.mono hk) hg hm kp b v pass0 ha hdb he hpl
theorem pe_rK (c : ClR X.prog X.w X.K X.mg X.base k x sp) (hr : Room j X.A) (hk : k ≤ j) (hg : Gl X x) (ha : PA X (e :: es) t) (hkw : PK X kws tk) (hall : (backToKw pos (keywordEach kws X.env)).all (·.1.isSome) = true := by rfl) (hks : (backToKw pos (keywordEach kws X.env)).filterMap (·.1) = [("most" : Str)] := by rfl)
    (hdb : (x == ("__debug__" : Str)) = false := by decide) (he : starEach (e :: es) X.env = (false, eval e X.env) :: starEach es X.env := by rfl)
    (hpl : ((backTo pos (starEach (e :: es) X.env)).any (·.1) || (backToKw pos (keywordEach kws X.env)).any (·.1.isNone)) = false := by rfl) :
    PE X (.Call (.Name x p) (e :: es) kws pos) (L2.tCallN 1 1 sp (fun vs zs => vs ++ zs) E0 t tk) := by
  obtain ⟨f, fd, ps, F, hm, kp, b⟩ := c.kw
  exact pe_callN F (hr.mono hk) hg hm kp b pass0 ha hkw hall hks hdb he hpl
end
section
variable {P : Program} {w : World} {K : PySem.W.Frag} {mg : Str → Option Value} {base : Heap} {C : Addr} {T : List (Addr × Str)}
theorem ok_runs (TC : ClsT K mg "Bounce" C namesB) (c_l_done : Cl P w K mg base 4 "_law_done" (spDone C T)) {f : Addr} {fd : FuncData} (F : FunD K "run_bounces" "run_bounces" (defArgs s_p_run_bounces) (defBody s_p_run_bounces) (defScope s_p_run_bounces) [.int 1000000] [] f fd) (hm : mg "run_bounces" = some (.ref f)) : ClR P w K mg base 6 "run_bounces" (spRun K C T) := by
  have FO := ok_run (P := P) (w := w) (base := base) TC c_l_done F
  refine ⟨⟨f, fd, _, FO, hm, F.kp, ?_⟩, ?_, f, fd, _, FO, hm, F.kp, ?_⟩
  · obtain ⟨ds, hv, hb⟩ := F.binds1 (ps := ["bounce", "most"]) 2 1 (by simp) rfl (fun T kV doc pm an cdv ct us its hu hi => match us, its, hu, hi with | [_, _], [_], _, _ => ⟨_, rfl, rfl⟩)
    have : ds = [] := by
      have := hv.length
      exact List.length_eq_zero_iff.mp this.symm
    rw [this] at hb
    exact hb
  · obtain ⟨ds, hv, hb⟩ := F.binds1 (ps := ["bounce", "most"]) 1 0 (by simp) rfl (fun T kV doc pm an cdv ct us its hu hi => match us, its, hu, hi with | [_], [_], _, _ => ⟨_, rfl, rfl⟩)
    exact ⟨f, fd, _, ds, FO, hm, F.kp, hb, hv⟩
  · obtain ⟨oc, od, dV, kV, doc, pm, an, cdv, ct, osl, rfl, lk, hcd, hD, hK⟩ := F.ex
    rcases hD with ⟨e, _⟩ | ⟨_, T', o, its, m, rfl, lT, oT, rT⟩
    · cases e
    · refine ⟨fun s us ws X l1 l2 => ?_, fun a b => a.append b⟩
      refine BindsTo.of_looks fun M => ?_
      match us, ws, its, l1, l2, rT.length with
      | [u], [w'], [d], _, _, _ =>
        have key : ∃ k, bindArgs (PySem.W.fnOf "run_bounces" "run_bounces" (defArgs s_p_run_bounces) (defBody s_p_run_bounces) (defScope s_p_run_bounces) (.ref T') kV doc pm an cdv ct) ⟨[u], [("most" : Str)].zip [w']⟩ = seqItems? (.ref T') >>= k ∧ k (some [d].toArray) = pure ([("bounce" : Str), "most"].zip ([u] ++ [w'])) := ⟨_, rfl, rfl⟩
        obtain ⟨k', e1, e2⟩ := key
        rw [e1]
        exact looks_items X lT oT (.of_pure e2)
end
end K12

namespace K12
open PySem L2 Cm PyProof.Rows LamX NdefX
theorem ExtL.boM {C R L M : Addr} {i : Nat} {b : Addr} {x : Int} {H H' : Hp} {xs : List V} (e : ExtL M H H') (hM : H M = some (.lst xs)) (z : BoAt C R L i b x H) : BoAt C R L i b x H' := by
  obtain ⟨dx, f, cl, c, h1, h2, h3, C⟩ := z
  have nl : ∀ {a : Addr} {o : HO}, H a = some o → (∀ ys, o ≠ .lst ys) → a ≠ M := fun {a o} h n z => by
    rw [z, hM] at h
    exact n xs (Option.some.inj h).symm
  refine ⟨dx, f, cl, c, e _ _ h1 (fun ps z => by cases z) (nl h1 fun ys z => by cases z), e _ _ h2 lamO_ne (nl h2 fun ys z => by unfold LamO at z; cases z), e _ _ h3 codeO_ne (nl h3 fun ys z => by unfold CodeO at z; cases z), C.len, C.inj, C.all, fun j y ej => ?_⟩
  obtain ⟨cc, v, e1, e2, e3⟩ := C.has j y ej
  exact ⟨cc, v, e1, e2, e _ _ e3 cellO_ne (nl e3 fun ys z => by unfold CellO at z; cases z)⟩
theorem ExtL.resM {C R L M : Addr} {rws : List Int} {i : Nat} {v : V} {H H' : Hp} {xs : List V} (e : ExtL M H H') (hM : H M = some (.lst xs)) (z : Res C R L rws i v H) : Res C R L rws i v H' := by
  rcases z with z | ⟨b, x, e1, e2, e3⟩
  · exact .inl z
  · exact .inr ⟨b, x, e1, e2, e.boM hM e3⟩
theorem tabs_kh {T : List (Addr × Str)} {h : Addr} {H H' : Hp} {xs : List V} (t : Tabs T H) (hh : H h = some (.lst xs)) (k : Kh h H H') : Tabs T H' := fun p hp => by
  obtain ⟨ps, h1, h2, h3⟩ := t p hp
  refine ⟨ps, k.st _ _ (fun z => by rw [z, hh] at h1; cases h1) h1, h2, fun pos cv hc => ?_⟩
  obtain ⟨c, e1, e2⟩ := h3 pos cv hc
  exact ⟨c, e1, k.st _ _ (fun z => by rw [z, hh] at e2; unfold CodeO at e2; cases e2) e2⟩
/-- what the law holds -/
structure Zk (T : List (Addr × Str)) (h cc R L : Addr) (rws lg : List Int) (H : Hp) : Prop where
  hh : Hand H h cc
  nR : R ≠ h
  nL : L ≠ h
  nC : L ≠ cc
  ne : R ≠ L
  hR : H R = some (.lst (rws.map V.int))
  hL : H L = some (.lst (lg.map V.int))
  tb : Tabs T H
theorem Zk.same {T : List (Addr × Str)} {h cc R L : Addr} {rws lg : List Int} {H H' : Hp} (s : Same H H') (z : Zk T h cc R L rws lg H) : Zk T h cc R L rws lg H' :=
  ⟨z.hh.same s, z.nR, z.nL, z.nC, z.ne, s _ _ z.hR, s _ _ z.hL, z.tb.ext s⟩
theorem Zk.kh {T : List (Addr × Str)} {h cc R L : Addr} {rws lg : List Int} {H H' : Hp} (k : Kh h H H') (hh : Hand H' h cc) (z : Zk T h cc R L rws lg H) : Zk T h cc R L rws lg H' := by
  obtain ⟨xs, e⟩ := z.hh.lst
  exact ⟨hh, z.nR, z.nL, z.nC, z.ne, k.st _ _ z.nR z.hR, k.st _ _ z.nL z.hL, tabs_kh z.tb e k⟩
theorem Zk.run {T : List (Addr × Str)} {h cc R L : Addr} {rws lg lg' : List Int} {H H' : Hp} (e : ExtL L H H') (hL : H' L = some (.lst (lg'.map V.int))) (tb : Tabs T H') (z : Zk T h cc R L rws lg H) : Zk T h cc R L rws lg' H' := by
  refine ⟨?_, z.nR, z.nL, z.nC, z.ne, e _ _ z.hR (fun ps z => by cases z) z.ne, hL, tb⟩
  obtain ⟨cells, i, b, t, e1, e2, r⟩ := z.hh
  exact ⟨cells, i, b, t, e _ _ e1 (fun ps z => by cases z) z.nL.symm, e _ _ e2 (fun ps z => by cases z) z.nC.symm, r⟩
theorem res_kh {C R L h : Addr} {rws : List Int} {i : Nat} {v : V} {H H' : Hp} {cc : Addr} (k : Kh h H H') (hh : Hand H h cc) (z : Res C R L rws i v H) : Res C R L rws i v H' := by
  obtain ⟨xs, e⟩ := hh.lst
  exact ExtL.resM (M := h) (fun b o e1 _ n => k.st _ _ n e1) e z
theorem Zk.r {T : List (Addr × Str)} {h cc R L : Addr} {rws lg : List Int} {H : Hp} {K : PySem.W.Frag} (z : Zk T h cc R L rws lg H) : SqL K H R (rws.map V.int) := .inl (.inl z.hR)
def spLaw (K : PySem.W.Frag) (T : List (Addr × Str)) : Sp := fun vs H Q _ => ∃ (a : Addr) (ns : List Int), vs = [.ref a] ∧ SqL K H a (ns.map V.int) ∧ ns.length ≤ 63 ∧ Tabs T H ∧ ∀ H', Q (.bl true) H'
structure Calls (P : Program) (w : World) (K : PySem.W.Frag) (mg : Str → Option Value) (base : Heap) (C : Addr) (T : List (Addr × Str)) : Prop where
  hand : Cl P w K mg base 1 "_law_hand" (spHand K)
  draw : Cl P w K mg base 2 "_law_draw" spDraw
  next : Cl P w K mg base 3 "_law_next" (spNext C T)
  run : ClR P w K mg base 6 "run_bounces" (spRun K C T)
  told : Cl P w K mg base 1 "_law_told" (spTold K C)
section
variable {P : Program} {w : World} {K : PySem.W.Frag} {mg : Str → Option Value} {base : Heap} {C : Addr} {T : List (Addr × Str)}
abbrev s_law : Stmt := top 10
abbrev N_law : List Str := ["_law_script", "_law_hand_here", "_law_many", "_law_first", "_law_rows", "_law_at", "_law_log", "_law_bounce", "_law_done_here", "_law_turn", "_law_most", "_law_due", "_law_told_here", "_law_half", "_law_kept"]
theorem sc_law : FnScope N_law ["_law_script"] (defScope s_law) := ⟨rfl, rfl, rfl, by decide +kernel, rfl, by decide +kernel, by decide +kernel⟩
theorem ok_law {f : Addr} {fd : FuncData} (Tx : Txt mg) (c : Calls P w K mg base C T) (F : Fun K "law" "law" s_law f fd) : FnOk P w K mg base CX0 8 f fd ["_law_script"] (spLaw K T) := by
  refine F.ok (k := 7) sc_law (fun vs H Q E h => ?_) fun cdv A outer s H vs Q E hr h => ?_
  · obtain ⟨a, ns, rfl, _⟩ := h
    rfl
  · obtain ⟨a, ns0, rfl, hS, hlen, hT, k⟩ := h
    refine ⟨_, (pss_cons (ps_set (i := 1) sc_law.nd rfl (Or.inr rfl) (pe_c c.hand hr (by decide) (by rfl) (pa_cons (pv 0) pa_nil)))
      (pss_cons (ps_set (i := 2) sc_law.nd rfl (Or.inl rfl) (pe_c c.draw hr (by decide) (by rfl) (pa_cons (pv 1) (pa_cons pe_int pa_nil))))
      (pss_mid (ps_if (pt_cmpR op_eq (pe_c c.draw hr (by decide) (by rfl) (pa_cons (pv 1) (pa_cons pe_int pa_nil))) pe_int (nomark _))
        (pss_one (ps_set (i := 2) sc_law.nd rfl (Or.inl rfl) (pe_op op_sub pe_int (pv 2))))
        pss_nil)
      (pss_cons (ps_set (i := 3) sc_law.nd rfl (Or.inr rfl) (pe_c c.draw hr (by decide) (by rfl) (pa_cons (pv 1) (pa_cons (pe_op op_pow pe_int pe_int) pa_nil))))
      (pss_mid (ps_setLc (i := 4) (own := [("_law_at", 5)]) rfl sc_law.nd rfl rfl (sw_true rfl rfl rfl (by decide +kernel)) (pi_range1 (by rfl) Tx.range (pa_cons (pv 2) pa_nil)) (blkOk_by (N := N_law) (sc := defScope s_law) (by decide +kernel))
      (fun _ _ _ _ _ => (pg_name (i := 5) sc_law.nd rfl (Or.inl rfl)))
      (fun _ _ _ _ _ => pts_nil)
      (fun _ _ _ _ _ => (pe_ifExp (pt_cmpR op_lt (pv 5) pe_int (nomark _)) (pe_c c.draw hr (by decide) (by rfl) (pa_cons (pv 1) (pa_cons (pe_op op_pow pe_int pe_int) pa_nil))) (pe_op op_add (pv 3) (pe_op op_mul (pv 5) (pv 5))))))
      (pss_cons (ps_set (i := 6) sc_law.nd rfl (Or.inl rfl) (pe_lst pa_nil))
      (pss_cons (ps_set (i := 7) sc_law.nd rfl (Or.inl rfl) (pe_c c.next hr (by decide) (by rfl) (pa_cons (pv 4) (pa_cons (pv 6) (pa_cons pe_int pa_nil)))))
      (pss_cons (ps_set (i := 8) sc_law.nd rfl (Or.inl rfl) pe_int)
      (pss_mid (ps_for PassesOwn.never rfl (pi_range1 (by rfl) Tx.range (pa_cons pe_int pa_nil)) (pg_name (i := 9) sc_law.nd rfl (Or.inl rfl))
        (pss_cons (ps_set (i := 10) sc_law.nd rfl (Or.inl rfl) (pe_c c.draw hr (by decide) (by rfl) (pa_cons (pv 1) (pa_cons pe_int pa_nil))))
        (pss_cons (ps_set (i := 11) sc_law.nd rfl (Or.inl rfl) (pe_callB (call_min2 rfl) (by rfl) Tx.min (by decide +kernel) (pa_cons (pv 10) (pa_cons (pe_op op_sub (pv 2) (pv 8)) pa_nil))))
        (pss_cons (ps_set (i := 12) sc_law.nd rfl (Or.inl rfl) (pe_c c.run.full hr (by decide) (by rfl) (pa_cons (pv 7) (pa_cons (pv 10) pa_nil))))
        (pss_mid (ps_set (i := 8) sc_law.nd rfl (Or.inl rfl) (pe_op op_add (pv 8) (pv 11)))
        (pss_mid (ps_if (PW.pt (pw_or (pt_not (pt_val (pe_c c.told hr (by decide) (by rfl) (pa_cons (pv 12) (pa_cons (pv 11) (pa_cons (pe_slice sl_list (pv 4) (po_some (pv 8)) po_none) pa_nil)))))) (pw_or1 (pt_cmpR (op_neD hr.units) (pv 6) (pe_slice sl_list (pv 4) po_none (po_some (pv 8))) (nomark _)))))
          (pss_one (ps_ret pe_bl))
          pss_nil)
        (pss_one (ps_set (i := 7) sc_law.nd rfl (Or.inl rfl) (pe_ix ix_tup (pv 12) pe_int (fun _ _ => rfl))))))))))
      (pss_mid (ps_set (i := 13) sc_law.nd rfl (Or.inl rfl) (pe_op op_fdiv (pe_op op_sub (pv 2) (pv 8)) pe_int))
      (pss_cons (ps_set (i := 14) sc_law.nd rfl (Or.inl rfl) (pv 7))
      (pss_mid (ps_set (i := 12) sc_law.nd rfl (Or.inl rfl) (pe_rK c.run hr (by decide) (by rfl) (pa_cons (pv 14) pa_nil) (pk_cons (pv 13) pk_nil)))
      (pss_mid (ps_if (PW.pt (pw_or (pt_not (pt_val (pe_c c.told hr (by decide) (by rfl) (pa_cons (pv 12) (pa_cons (pv 13) (pa_cons (pe_slice sl_list (pv 4) (po_some (pe_op op_add (pv 8) (pv 13))) po_none) pa_nil)))))) (pw_or1 (pt_cmpR (op_neD hr.units) (pv 6) (pe_slice sl_list (pv 4) po_none (po_some (pe_op op_add (pv 8) (pv 13)))) (nomark _)))))
        (pss_one (ps_ret pe_bl))
        pss_nil)
      (pss_mid (ps_if (PW.pt (pw_or (pt_not (pt_val (pe_c c.told hr (by decide) (by rfl) (pa_cons (pe_rD c.run hr (by decide) (by rfl) (pa_cons (pe_ix ix_tup (pv 12) pe_int (fun _ _ => rfl)) pa_nil)) (pa_cons (pe_op op_sub (pe_op op_sub (pv 2) (pv 8)) (pv 13)) (pa_cons (pe_lst pa_nil) pa_nil)))))) (pw_or1 (pt_cmpR (op_neD hr.units) (pv 6) (pv 4) (nomark _)))))
        (pss_one (ps_ret pe_bl))
        pss_nil)
      (pss_mid (ps_if (PW.pt (pw_or (pt_not (pt_val (pe_c c.told hr (by decide) (by rfl) (pa_cons (pe_rD c.run hr (by decide) (by rfl) (pa_cons (pv 14) pa_nil)) (pa_cons (pe_op op_sub (pv 2) (pv 8)) (pa_cons (pe_lst pa_nil) pa_nil)))))) (pw_or1 (pt_cmpR (op_neD hr.units) (pv 6) (pe_op op_cat (pv 4) (pe_slice sl_list (pv 4) (po_some (pv 8)) po_none)) (nomark _)))))
        (pss_one (ps_ret pe_bl))
        pss_nil)
      (pss_one (ps_ret (pe_c c.told hr (by decide) (by rfl) (pa_cons (pe_c c.run.full hr (by decide) (by rfl) (pa_cons pe_non (pa_cons (pe_c c.draw hr (by decide) (by rfl) (pa_cons (pv 1) (pa_cons pe_int pa_nil))) pa_nil))) (pa_cons pe_int (pa_cons (pe_lst pa_nil) pa_nil))))))))))))))))))))), ?_⟩
    refine ⟨_, rfl, a, ns0, rfl, hS, hlen, fun h cc H1 s1 hn1 hn2 hh1 => ?_⟩
    refine ⟨_, rfl, h, cc, 41, rfl, hh1, by decide, by decide, fun n0 H2 n0a n0b k2 hh2 => ?_⟩
    have hT2 : Tabs T H2 := by
      obtain ⟨xs, e⟩ := hh1.lst
      exact tabs_kh (hT.ext s1) e k2
    refine ⟨fun σ' H' => ∃ many : Nat, σ' = [some (.ref a), some (.ref h), some (.int (many : Int)), none, none, none, none, none, none, none, none, none, none, none, none] ∧ many ≤ 5000 ∧ Hand H' h cc ∧ Tabs T H', ?_, ?_⟩
    · refine ⟨_, rfl, h, cc, 8, rfl, hh2, by decide, by decide, fun n3 H3 n3a n3b k3 hh3 => ⟨rfl, _, rfl, ?_⟩⟩
      have hT3 : Tabs T H3 := by
        obtain ⟨xs, e⟩ := hh2.lst
        exact tabs_kh hT2 e k3
      refine ite2 (fun _ => ?_) (fun _ => ⟨n0.toNat, by rw [Int.toNat_of_nonneg n0a]; rfl, by omega, hh3, hT3⟩)
      exact ⟨_, rfl, _, _, rfl, rfl, (5000 - n0).toNat, by rw [Int.toNat_of_nonneg (by omega)]; rfl, by omega, hh3, hT3⟩
    rintro σ2 H3 ⟨many, rfl, hmany, hh3, hT3⟩
    refine ⟨_, rfl, _, _, rfl, rfl, ⟨by decide, by decide, by decide⟩, h, cc, _, rfl, hh3, by decide, by decide, fun f1 H4 f1a f1b k4 hh4 => ?_⟩
    have hT4 : Tabs T H4 := by
      obtain ⟨xs, e⟩ := hh3.lst
      exact tabs_kh hT3 e k4
    refine ⟨fun σ' H' => ∃ (R : Addr) (rws : List Int), σ' = [some (.ref a), some (.ref h), some (.int (many : Int)), some (.int f1), some (.ref R), none, none, none, none, none, none, none, none, none, none] ∧ Hand H' h cc ∧ R ≠ h ∧ H' R = some (.lst (rws.map V.int)) ∧ rws.length = many ∧ Tabs T H', ?_, ?_⟩
    · refine ⟨_, rfl, _, rfl, by omega, by omega, fun D hD => ?_⟩
      have nD := hh4.there hD
      refine lc_drawJ (K := K) (M := fun x => x = h) (walk_upto (n := (many : Int).toNat)) (fun i ds H' => Hand H' h cc ∧ ∃ xs : List Int, ds = xs.map PyData.int ∧ xs.length = i) (fun x q => by subst q; exact hh4.lst) ⟨hh4.same (same_new hD), [], rfl, rfl⟩
        (fun i ds H' ys _ j => ⟨j.1.puts nD.1 nD.2, j.2⟩) hD (by omega) (fun _ _ _ _ _ => trivial) (fun i ds H' j => by obtain ⟨_, xs, rfl, _⟩ := j; exact flatDs_ints xs) ?_ ?_
      · rintro i x ds H5 H6 hi k5 ⟨hh5, xs, rfl, hxs⟩ ⟨rfl, rfl⟩ Q1 Q0 q1 q0
        refine ⟨rfl, _, rfl, _, _, rfl, rfl, _, rfl, ?_⟩
        refine ite2 (fun _ => ?_) (fun _ => ?_)
        · refine ⟨_, rfl, _, _, rfl, rfl, ⟨by decide, by decide, by decide⟩, h, cc, _, rfl, hh5, by decide, by decide, fun n6 H7 _ _ k7 hh7 => ?_⟩
          exact q1 _ _ (.int n6) k7 ⟨hh7, xs ++ [n6], by rw [List.map_append]; rfl, by rw [List.length_append, hxs]; rfl⟩ (.int _)
        · refine ⟨_, rfl, _, rfl, _, rfl, _, _, rfl, rfl, .inl ⟨by omega, by omega⟩, _, _, rfl, rfl, ?_⟩
          exact q1 _ _ (.int _) (Kp.refl fun x q => by subst q; exact hh5.lst) ⟨hh5, xs ++ [_], by rw [List.map_append]; rfl, by rw [List.length_append, hxs]; rfl⟩ (.int _)
      · rintro H5 acc ds k5 ⟨hh5, xs, rfl, hxs⟩ hacc hda
        have := dpAll_ints_inv hda
        subst this
        have hT5 : Tabs T H5 := by
          obtain ⟨ys, e⟩ := hh4.lst
          exact tabs_kh hT4 e k5
        exact ⟨D, xs, rfl, hh5, nD.1, hacc, by omega, hT5⟩
    rintro σ4 H5 ⟨R, rws, rfl, hh5, nR, hR5, eln, hT5⟩
    subst eln
    refine ⟨by show 0 ≤ sizeLine; decide, fun L hL => ?_⟩
    have nL := hh5.there hL
    have s6 := same_new (o := .lst []) hL
    have z6 : Zk T h cc R L rws [] (upd H5 L (.lst [])) := ⟨hh5.same s6, nR, nL.1, nL.2, ne_of_none hR5 hL, s6 _ _ hR5, upd_same, hT5.ext s6⟩
    generalize upd H5 L (.lst []) = H6 at *
    refine ⟨_, rfl, _, rfl, R, L, rws, 0, rfl, z6.hR, ⟨_, z6.hL⟩, z6.tb, fun v7 H7 e7 T7 res7 => ?_⟩
    have z7 : Zk T h cc R L rws [] H7 := z6.run (.of e7) (e7 _ _ z6.hL fun ps z => by cases z) T7
    clear z6 s6 hT5 hh5 hR5 e7 T7
    refine ⟨fun σ' H' => ∃ (v5 v9 v10 v11 v12 : Option V) (v7 : V) (done : Nat), σ' = [some (.ref a), some (.ref h), some (.int ((rws.length : Nat) : Int)), some (.int f1), some (.ref R), v5, some (.ref L), some v7, some (.int (done : Nat)), v9, v10, v11, v12, none, none] ∧ done ≤ rws.length ∧ Zk T h cc R L rws (rws.take done) H' ∧ Res C R L rws done v7 H', ?_, ?_⟩
    · refine ⟨_, rfl, by decide, by decide, ?_⟩
      refine for_it (walk_upto (n := (6 : Int).toNat)) (fun i σ' H' => ∃ (v5 v9 v10 v11 v12 : Option V) (v7 : V) (done : Nat), σ' = [some (.ref a), some (.ref h), some (.int ((rws.length : Nat) : Int)), some (.int f1), some (.ref R), v5, some (.ref L), some v7, some (.int (done : Nat)), v9, v10, v11, v12, none, none] ∧ done ≤ rws.length ∧ Zk T h cc R L rws (rws.take done) H' ∧ Res C R L rws done v7 H') ⟨_, _, _, _, _, v7, 0, rfl, Nat.zero_le _, by rw [List.take_zero]; exact z7, res7⟩ (fun _ _ _ _ _ => trivial) ?_ ?_
      · rintro i x σ H8' H8 hi ⟨v5, v9, v10, v11, v12, v7, done, rfl, hdone, z8, res8⟩ ⟨rfl, rfl⟩
        refine ⟨_, rfl, h, cc, 12, rfl, z8.hh, by decide, by decide, fun m0 H9 m0a m0b k9 hh9 => ?_⟩
        have z9 := z8.kh k9 hh9
        have res9 := res_kh k9 z8.hh res8
        obtain ⟨mm, rfl⟩ : ∃ mm : Nat, m0 = (mm : Int) := ⟨m0.toNat, by omega⟩
        refine ⟨_, rfl, _, rfl, _, rfl, _, _, rfl, rfl, _, _, rfl, ?_⟩
        have em : (if ((rws.length : Nat) : Int) - (done : Nat) < (mm : Int) then ((rws.length : Nat) : Int) - (done : Nat) else (mm : Int)) = ((min mm (rws.length - done) : Nat) : Int) := by
          split <;> omega
        rw [em]
        obtain ⟨n, en⟩ : ∃ n, n = min mm (rws.length - done) := ⟨_, rfl⟩
        refine ⟨_, rfl, _, rfl, R, L, rws, rws.take done, done, v7, mm, rfl, z9.hR, z9.hL, z9.ne, by rw [List.length_take]; omega, hdone, z9.tb, res9, fun r v' H10 e10 hL10 T10 res10 hr10 => ?_⟩
        rw [← en, ← List.take_add] at hL10
        rw [← en] at res10 hr10 ⊢
        have z10 := z9.run e10 hL10 T10
        have hdn : done + n ≤ rws.length := by omega
        have hdm : done + n ≤ (rws.map V.int).length := by rw [List.length_map]; exact hdn
        refine ⟨fun σ' H' => σ' = [some (.ref a), some (.ref h), some (.int ((rws.length : Nat) : Int)), some (.int f1), some (.ref R), v5, some (.ref L), some v7, some (.int ((done + n : Nat) : Int)), some (.int (i : Nat)), some (.int (mm : Int)), some (.int (n : Nat)), some (.ref r), none, none] ∧ H' = H10, ⟨_, rfl, _, rfl, _, _, rfl, rfl, rfl, rfl⟩, ?_⟩
        rintro σ9 H10' ⟨rfl, rfl⟩
        refine ⟨fun σ' H' => σ' = [some (.ref a), some (.ref h), some (.int ((rws.length : Nat) : Int)), some (.int f1), some (.ref R), v5, some (.ref L), some v7, some (.int ((done + n : Nat) : Int)), some (.int (i : Nat)), some (.int (mm : Int)), some (.int (n : Nat)), some (.ref r), none, none] ∧ Same H10' H', ?_, ?_⟩
        · refine ⟨_, rfl, _, rfl, _, rfl, _, rfl, _, rfl, R, _, rfl, z10.r, fun p1 hp1 => ?_⟩
          rw [cut_from hdm]
          have s1 := same_new (o := .lst ((rws.map V.int).drop (done + n))) hp1
          refine ⟨R, L, r, p1, rws, done + n, n, v', rfl, sqt_same s1 hr10, by rw [List.map_drop]; exact upd_same, (ExtL.same (L := L) s1).res z10.hL res10, by omega, fun H11 s11 => ⟨_, rfl, iteF ?_⟩⟩
          have z11 := z10.same (s1.trans s11)
          refine ⟨_, rfl, _, rfl, _, rfl, _, rfl, R, _, rfl, z11.r, fun p2 hp2 => ?_⟩
          rw [cut_to hdm]
          have s2 := same_new (o := .lst ((rws.map V.int).take (done + n))) hp2
          refine ⟨.list ((rws.take (done + n)).map PyData.int), .list ((rws.take (done + n)).map PyData.int), .lst (.inl (.inl (s2 _ _ z11.hL))) (dp_intsL _), .lst (.inl (.inl (by rw [List.map_take]; exact upd_same))) (dp_intsL _), ints_sh _, ints_sh _, _, rfl, ?_⟩
          rw [ne_same' (ints_sh _)]
          exact iteF ⟨rfl, (s1.trans s11).trans s2⟩
        rintro σ10 H11 ⟨rfl, s11⟩
        refine ⟨_, rfl, r, _, _, _, rfl, rfl, sqt_same s11 hr10, atI_nat (j := 1) rfl, ?_⟩
        exact ⟨_, _, _, _, _, v', done + n, rfl, hdn, z10.same s11, (ExtL.same (L := L) s11).res z10.hL res10⟩
      · rintro σ H8 h8
        exact h8
    rintro σ8 H8 ⟨v5, v9, v10, v11, v12, v7, done, rfl, hdone, z8, res8⟩
    obtain ⟨half, eh⟩ : ∃ half : Nat, half = (rws.length - done) / 2 := ⟨_, rfl⟩
    have hh2 : done + half ≤ rws.length := by omega
    refine ⟨fun σ' H' => σ' = [some (.ref a), some (.ref h), some (.int ((rws.length : Nat) : Int)), some (.int f1), some (.ref R), v5, some (.ref L), some v7, some (.int (done : Nat)), v9, v10, v11, v12, some (.int (half : Nat)), none] ∧ H' = H8, ⟨_, rfl, _, rfl, _, _, rfl, rfl, _, _, rfl, rfl, ⟨by decide, by decide⟩, ?_, rfl⟩, ?_⟩
    · have ev : (((rws.length : Nat) : Int) - ((done : Nat) : Int)) / 2 = ((half : Nat) : Int) := by omega
      show List.set _ 13 (some (V.int ((((rws.length : Nat) : Int) - ((done : Nat) : Int)) / 2))) = _
      rw [ev]
      rfl
    rintro σ9 H8' ⟨rfl, rfl⟩
    refine ⟨_, rfl, ?_⟩
    refine ⟨fun σ' H' => ∃ (r : Addr) (v' : V), σ' = [some (.ref a), some (.ref h), some (.int ((rws.length : Nat) : Int)), some (.int f1), some (.ref R), v5, some (.ref L), some v7, some (.int (done : Nat)), v9, v10, v11, some (.ref r), some (.int (half : Nat)), some v7] ∧ Zk T h cc R L rws (rws.take (done + half)) H' ∧ ExtL L H8' H' ∧ Res C R L rws (done + half) v' H' ∧ SqT K H' r [.int (half : Nat), v'], ?_, ?_⟩
    · refine ⟨_, rfl, _, rfl, rfl, rfl, R, L, rws, rws.take done, done, v7, half, rfl, z8.hR, z8.hL, z8.ne, by rw [List.length_take]; omega, hdone, z8.tb, res8, fun r v' H9 e9 hL9 T9 res9 hr9 => ?_⟩
      rw [show min half (rws.length - done) = half by omega] at hL9 res9 hr9
      rw [← List.take_add] at hL9
      exact ⟨r, v', rfl, z8.run e9 hL9 T9, e9, res9, hr9⟩
    rintro σ10 H9 ⟨r, v', rfl, z9, e9, res9, hr9⟩
    have hm2 : done + half ≤ (rws.map V.int).length := by rw [List.length_map]; exact hh2
    have sh : ∀ l : List Int, SeqAt.shaped (.list (l.map PyData.int)) = true := ints_sh
    refine ⟨fun σ' H' => σ' = [some (.ref a), some (.ref h), some (.int ((rws.length : Nat) : Int)), some (.int f1), some (.ref R), v5, some (.ref L), some v7, some (.int (done : Nat)), v9, v10, v11, some (.ref r), some (.int (half : Nat)), some v7] ∧ Same H9 H', ?_, ?_⟩
    · refine ⟨_, rfl, _, rfl, _, rfl, _, rfl, _, rfl, _, _, rfl, rfl, ((done + half : Nat) : Int), rfl, R, _, rfl, z9.r, fun p1 hp1 => ?_⟩
      rw [cut_from hm2]
      have s1 := same_new (o := .lst ((rws.map V.int).drop (done + half))) hp1
      refine ⟨R, L, r, p1, rws, done + half, half, v', rfl, sqt_same s1 hr9, by rw [List.map_drop]; exact upd_same, (ExtL.same (L := L) s1).res z9.hL res9, by omega, fun H11 s11 => ⟨_, rfl, iteF ?_⟩⟩
      have z11 := z9.same (s1.trans s11)
      refine ⟨_, rfl, _, rfl, _, rfl, _, rfl, _, _, rfl, rfl, ((done + half : Nat) : Int), rfl, R, _, rfl, z11.r, fun p2 hp2 => ?_⟩
      rw [cut_to hm2]
      have s2 := same_new (o := .lst ((rws.map V.int).take (done + half))) hp2
      refine ⟨.list ((rws.take (done + half)).map PyData.int), .list ((rws.take (done + half)).map PyData.int), .lst (.inl (.inl (s2 _ _ z11.hL))) (dp_intsL _), .lst (.inl (.inl (by rw [List.map_take]; exact upd_same))) (dp_intsL _), sh _, sh _, _, rfl, ?_⟩
      rw [ne_same' (sh _)]
      exact iteF ⟨rfl, (s1.trans s11).trans s2⟩
    rintro σ11 H11 ⟨rfl, s11⟩
    have z11 := z9.same s11
    have res11 := (ExtL.same (L := L) s11).res z9.hL res9
    have e11 : ExtL L H8' H11 := e9.trans (.same s11)
    refine ⟨fun σ' H' => σ' = [some (.ref a), some (.ref h), some (.int ((rws.length : Nat) : Int)), some (.int f1), some (.ref R), v5, some (.ref L), some v7, some (.int (done : Nat)), v9, v10, v11, some (.ref r), some (.int (half : Nat)), some v7] ∧ Zk T h cc R L rws rws H' ∧ ExtL L H8' H', ?_, ?_⟩
    · refine ⟨_, rfl, r, _, _, _, rfl, rfl, sqt_same s11 hr9, atI_nat (j := 1) rfl, R, L, rws, rws.take (done + half), done + half, v', 1000000, rfl, z11.hR, z11.hL, z11.ne, by rw [List.length_take]; omega, hh2, z11.tb, res11, fun r2 v2 H12 e12 hL12 T12 res12 hr12 => ?_⟩
      rw [show min 1000000 (rws.length - (done + half)) = rws.length - (done + half) by omega] at hL12 res12 hr12
      rw [← List.take_add, show done + half + (rws.length - (done + half)) = rws.length by omega, List.take_length] at hL12
      rw [show done + half + (rws.length - (done + half)) = rws.length by omega] at res12
      have z12 := z11.run e12 hL12 T12
      refine ⟨_, rfl, _, rfl, _, _, rfl, rfl, _, rfl, _, _, rfl, rfl, by show 0 ≤ sizeLine; decide, fun p hp => ?_⟩
      have s13 := same_new (o := .lst []) hp
      refine ⟨R, L, r2, p, rws, rws.length, rws.length - (done + half), v2, by
        show [V.ref r2, V.int (((rws.length : Nat) : Int) - ((done : Nat) : Int) - ((half : Nat) : Int)), V.ref p] = _
        rw [show ((rws.length : Nat) : Int) - ((done : Nat) : Int) - ((half : Nat) : Int) = ((rws.length - (done + half) : Nat) : Int) by omega], sqt_same s13 hr12, by rw [List.drop_length]; exact upd_same, (ExtL.same (L := L) s13).res z12.hL res12, by omega, fun H14 s14 => ⟨_, rfl, iteF ?_⟩⟩
      have z14 := z12.same (s13.trans s14)
      refine ⟨_, rfl, _, rfl, .list (rws.map PyData.int), .list (rws.map PyData.int), .lst (.inl (.inl z14.hL)) (dp_intsL _), .lst (.inl (.inl z14.hR)) (dp_intsL _), sh _, sh _, _, rfl, ?_⟩
      rw [ne_same' (sh _)]
      exact iteF ⟨rfl, z14, (e11.trans e12).trans (.same (s13.trans s14))⟩
    rintro σ12 H12 ⟨rfl, z12, e12⟩
    have res12 := e12.res z8.hL res8
    refine ⟨fun σ' H' => σ' = [some (.ref a), some (.ref h), some (.int ((rws.length : Nat) : Int)), some (.int f1), some (.ref R), v5, some (.ref L), some v7, some (.int (done : Nat)), v9, v10, v11, some (.ref r), some (.int (half : Nat)), some v7] ∧ Zk T h cc R L rws (rws ++ rws.drop done) H', ?_, ?_⟩
    · refine ⟨_, rfl, R, L, rws, rws, done, v7, 1000000, rfl, z12.hR, z12.hL, z12.ne, by omega, hdone, z12.tb, res12, fun r2 v2 H13 e13 hL13 T13 res13 hr13 => ?_⟩
      rw [show min 1000000 (rws.length - done) = rws.length - done by omega] at hL13 res13 hr13
      rw [List.take_of_length_le (by rw [List.length_drop]; exact Nat.le_refl _)] at hL13
      rw [show done + (rws.length - done) = rws.length by omega] at res13
      have z13 := z12.run e13 hL13 T13
      refine ⟨_, rfl, _, rfl, _, _, rfl, rfl, by show 0 ≤ sizeLine; decide, fun p hp => ?_⟩
      have s13 := same_new (o := .lst []) hp
      refine ⟨R, L, r2, p, rws, rws.length, rws.length - done, v2, by
        show [V.ref r2, V.int (((rws.length : Nat) : Int) - ((done : Nat) : Int)), V.ref p] = _
        rw [show ((rws.length : Nat) : Int) - ((done : Nat) : Int) = ((rws.length - done : Nat) : Int) by omega], sqt_same s13 hr13, by rw [List.drop_length]; exact upd_same, (ExtL.same (L := L) s13).res z13.hL res13, by omega, fun H14 s14 => ⟨_, rfl, iteF ?_⟩⟩
      have z14 := z13.same (s13.trans s14)
      have hd2 : done ≤ (rws.map V.int).length := by rw [List.length_map]; exact hdone
      refine ⟨_, rfl, _, rfl, _, rfl, _, rfl, ((done : Nat) : Int), rfl, R, _, rfl, z14.r, fun p2 hp2 => ?_⟩
      rw [cut_from hd2]
      have s15 := same_new (o := .lst ((rws.map V.int).drop done)) hp2
      refine ⟨R, p2, _, _, rfl, rfl, s15 _ _ z14.hR, upd_same, Nat.le_trans (show (rws.map V.int).length + ((rws.map V.int).drop done).length ≤ 10000 by rw [List.length_drop, List.length_map]; omega) (by decide), fun q hq => ?_⟩
      have s16 := same_new (o := .lst (rws.map V.int ++ (rws.map V.int).drop done)) hq
      refine ⟨.list ((rws ++ rws.drop done).map PyData.int), .list ((rws ++ rws.drop done).map PyData.int), .lst (.inl (.inl ((s15.trans s16) _ _ z14.hL))) (dp_intsL _), .lst (.inl (.inl (by rw [List.map_append, List.map_drop]; exact upd_same))) (dp_intsL _), sh _, sh _, _, rfl, ?_⟩
      rw [ne_same' (sh _)]
      exact iteF ⟨rfl, z14.same (s15.trans s16)⟩
    rintro σ13 H13 ⟨rfl, z13⟩
    refine ⟨_, rfl, h, cc, 3, rfl, z13.hh, by decide, by decide, fun m0 H14 m0a m0b k14 hh14 => ?_⟩
    have z14 := z13.kh k14 hh14
    obtain ⟨mm, rfl⟩ : ∃ mm : Nat, m0 = (mm : Int) := ⟨m0.toNat, by omega⟩
    refine ⟨R, L, rws, rws ++ rws.drop done, rws.length, .non, mm, rfl, z14.hR, z14.hL, z14.ne, by rw [List.length_append, List.length_drop]; omega, Nat.le_refl _, z14.tb, .inl ⟨Nat.le_refl _, rfl⟩, fun r2 v2 H15 e15 hL15 T15 res15 hr15 => ?_⟩
    rw [show min mm (rws.length - rws.length) = 0 by omega] at hL15 res15 hr15
    refine ⟨by show 0 ≤ sizeLine; decide, fun p hp => ?_⟩
    have s16 := same_new (o := .lst []) hp
    exact ⟨R, L, r2, p, rws, rws.length, 0, v2, rfl, sqt_same s16 hr15, by rw [List.drop_length]; exact upd_same, (ExtL.same (L := L) s16).res hL15 res15, by omega, fun H17 _ => k H17⟩
end
end K12

namespace K12
open PySem L2 Cm PyProof.Rows LamX NdefX
theorem all_nil {α : Type} {P : α → Prop} : ∀ x ∈ ([] : List α), P x := fun x m => by cases m
theorem all_cons {α : Type} {P : α → Prop} {a : α} {l : List α} (h : P a) (r : ∀ x ∈ l, P x) : ∀ x ∈ a :: l, P x := fun x m => by
  rcases List.mem_cons.mp m with rfl | m
  · exact h
  · exact r x m
theorem at_mk {K : PySem.W.Frag} {h : Heap} {mg : Str → Option Value} {x : Str} {st : Stmt} {ps : List Str} {f : Addr} {oc : Value} {od an : Option Addr} {osl : Array (Option Value)} {kV doc pm cdv ct : Value} (X : K.In h) (G : h.Ns mainGlobals mg)
    (a : PySem.W.nsIn K mainGlobals x = some (some (.ref f))) (l : K.lookup f = some ⟨oc, od, .func (PySem.W.fnOf x x (defArgs st) (defBody st) (defScope st) .none kV doc pm an cdv ct), osl⟩) (c : PySem.W.codeIn K cdv x = true) (k : PySem.W.keepIn K (.ref f) = true)
    (b : ∀ (kV doc pm : Value) (an : Option Addr) (cdv ct : Value) (us : List Value), us.length = ps.length → bindArgs (PySem.W.fnOf x x (defArgs st) (defBody st) (defScope st) .none kV doc pm an cdv ct) ⟨us, []⟩ = pure (ps.zip us)) : At K mg x st ps :=
  ⟨_, _, fun_mk l c k, PySem.W.mg_of X G a, (fun_mk l c k).binds b⟩
theorem all_mk {l : PySem.W.OpenLaw} {w : World} {K : PySem.W.Frag} {h : Heap} {mg : Str → Option Value} {fa f0 f1 f2 f3 f4 f5 : Addr} (X : K.In h) (G : h.Ns mainGlobals mg) (hfa : mg "law" = some (.ref fa))
    {od0 an0 : Option Addr} {sl0 : Array (Option Value)} {oc0 kV0 dc0 pm0 cd0 ct0 : Value} (a0 : PySem.W.nsIn K mainGlobals "_law_mix" = some (some (.ref f0))) (l0 : K.lookup f0 = some ⟨oc0, od0, .func (PySem.W.fnOf "_law_mix" "_law_mix" (defArgs s_l_mix) (defBody s_l_mix) (defScope s_l_mix) .none kV0 dc0 pm0 an0 cd0 ct0), sl0⟩) (c0 : PySem.W.codeIn K cd0 "_law_mix" = true) (k0 : PySem.W.keepIn K (.ref f0) = true)
    {od1 an1 : Option Addr} {sl1 : Array (Option Value)} {oc1 kV1 dc1 pm1 cd1 ct1 : Value} (a1 : PySem.W.nsIn K mainGlobals "_law_hand" = some (some (.ref f1))) (l1 : K.lookup f1 = some ⟨oc1, od1, .func (PySem.W.fnOf "_law_hand" "_law_hand" (defArgs s_l_hand) (defBody s_l_hand) (defScope s_l_hand) .none kV1 dc1 pm1 an1 cd1 ct1), sl1⟩) (c1 : PySem.W.codeIn K cd1 "_law_hand" = true) (k1 : PySem.W.keepIn K (.ref f1) = true)
    {od2 an2 : Option Addr} {sl2 : Array (Option Value)} {oc2 kV2 dc2 pm2 cd2 ct2 : Value} (a2 : PySem.W.nsIn K mainGlobals "_law_draw" = some (some (.ref f2))) (l2 : K.lookup f2 = some ⟨oc2, od2, .func (PySem.W.fnOf "_law_draw" "_law_draw" (defArgs s_l_draw) (defBody s_l_draw) (defScope s_l_draw) .none kV2 dc2 pm2 an2 cd2 ct2), sl2⟩) (c2 : PySem.W.codeIn K cd2 "_law_draw" = true) (k2 : PySem.W.keepIn K (.ref f2) = true)
    {od3 an3 : Option Addr} {sl3 : Array (Option Value)} {oc3 kV3 dc3 pm3 cd3 ct3 : Value} (a3 : PySem.W.nsIn K mainGlobals "_law_done" = some (some (.ref f3))) (l3 : K.lookup f3 = some ⟨oc3, od3, .func (PySem.W.fnOf "_law_done" "_law_done" (defArgs s_l_done) (defBody s_l_done) (defScope s_l_done) .none kV3 dc3 pm3 an3 cd3 ct3), sl3⟩) (c3 : PySem.W.codeIn K cd3 "_law_done" = true) (k3 : PySem.W.keepIn K (.ref f3) = true)
    {od4 an4 : Option Addr} {sl4 : Array (Option Value)} {oc4 kV4 dc4 pm4 cd4 ct4 : Value} (a4 : PySem.W.nsIn K mainGlobals "_law_told" = some (some (.ref f4))) (l4 : K.lookup f4 = some ⟨oc4, od4, .func (PySem.W.fnOf "_law_told" "_law_told" (defArgs s_l_told) (defBody s_l_told) (defScope s_l_told) .none kV4 dc4 pm4 an4 cd4 ct4), sl4⟩) (c4 : PySem.W.codeIn K cd4 "_law_told" = true) (k4 : PySem.W.keepIn K (.ref f4) = true)
    {od5 an5 : Option Addr} {sl5 : Array (Option Value)} {oc5 kV5 dc5 pm5 cd5 ct5 : Value} (a5 : PySem.W.nsIn K mainGlobals "law" = some (some (.ref f5))) (l5 : K.lookup f5 = some ⟨oc5, od5, .func (PySem.W.fnOf "law" "law" (defArgs s_law) (defBody s_law) (defScope s_law) .none kV5 dc5 pm5 an5 cd5 ct5), sl5⟩) (c5 : PySem.W.codeIn K cd5 "law" = true) (k5 : PySem.W.keepIn K (.ref f5) = true)
    (z_abs : PySem.W.nsIn K mainGlobals "abs" = some none)
    (z_enumerate : PySem.W.nsIn K mainGlobals "enumerate" = some none)
    (z_int : PySem.W.nsIn K mainGlobals "int" = some none)
    (z_isinstance : PySem.W.nsIn K mainGlobals "isinstance" = some none)
    (z_len : PySem.W.nsIn K mainGlobals "len" = some none)
    (z_min : PySem.W.nsIn K mainGlobals "min" = some none)
    (z_range : PySem.W.nsIn K mainGlobals "range" = some none)
    (z_tuple : PySem.W.nsIn K mainGlobals "tuple" = some none)
    (z_bool : PySem.W.nsIn K mainGlobals "bool" = some none)
    {CBounce : Addr} {fBounce_init : Addr} {odBounce_init anBounce_init : Option Addr} {slBounce_init : Array (Option Value)} {ocBounce_init kVBounce_init dcBounce_init pmBounce_init cdBounce_init ctBounce_init : Value}  {fRB TdRB : Addr} {odRB anRB odTD : Option Addr} {slRB slTD : Array (Option Value)} {ocRB kVRB dcRB pmRB cdRB ctRB : Value} {nTD : Nat} {tkTD : Tok} {fNX cNX PNX : Addr} {odNX anNX : Option Addr} {slNX : Array (Option Value)} {ocNX kVNX dcNX pmNX ctNX : Value}
    (hnG : PySem.W.specialIn K (.builtin "object.__class__") "__get__" = some (some (.builtin "getset_descriptor.__get__")))
    (htG : PySem.W.takesIn K (.builtin "object.__class__") = some true)
    (aBounce : PySem.W.nsIn K mainGlobals "Bounce" = some (some (.ref CBounce)))
    (pgBounce : PySem.W.plainGet K CBounce Str.empty = true)
    (hdBounce : PySem.W.hasDictIn K CBounce = true)
    (poBounce : PySem.W.plainOver K CBounce = true)
    (saBounce : PySem.W.findIn K (.ref CBounce) "__setattr__" = some (some (.builtin "object.__setattr__")))
    (mkBounce : PySem.W.makesIn K CBounce = true)
    (kcBounce : PySem.W.keepIn K (.ref CBounce) = true)
    (haBounce : PySem.W.findIn K (.ref CBounce) "__class__" = some (some (.builtin "object.__class__")))
    (hmBounce : PySem.W.mroIn K CBounce (.type "object") = some true)
    (noBounce_deed : PySem.W.findIn K (.ref CBounce) "deed" = some none)
    (noBounce_worth : PySem.W.findIn K (.ref CBounce) "worth" = some none)
    (gBounce_init : PySem.W.findIn K (.ref CBounce) "__init__" = some (some (.ref fBounce_init)))
    (jBounce_init : PySem.W.isFn K (.ref fBounce_init) = true)
    (lBounce_init : K.lookup fBounce_init = some ⟨ocBounce_init, odBounce_init, .func (PySem.W.fnOf "__init__" "Bounce.__init__" (defArgs s_BI) (defBody s_BI) (defScope s_BI) .none kVBounce_init dcBounce_init pmBounce_init anBounce_init cdBounce_init ctBounce_init), slBounce_init⟩)
    (cBounce_init : PySem.W.codeIn K cdBounce_init "Bounce.__init__" = true)
    (kBounce_init : PySem.W.keepIn K (.ref fBounce_init) = true)
    (aRB : PySem.W.nsIn K mainGlobals "run_bounces" = some (some (.ref fRB)))
    (lRB : K.lookup fRB = some ⟨ocRB, odRB, .func (PySem.W.fnOf "run_bounces" "run_bounces" (defArgs s_p_run_bounces) (defBody s_p_run_bounces) (defScope s_p_run_bounces) (.ref TdRB) kVRB dcRB pmRB anRB cdRB ctRB), slRB⟩)
    (cRB : PySem.W.codeIn K cdRB "run_bounces" = true)
    (kRB : PySem.W.keepIn K (.ref fRB) = true)
    (lTD : K.lookup TdRB = some ⟨.type "tuple", odTD, .seq #[.int 1000000 tkTD] nTD, slTD⟩)
    (aNX : PySem.W.nsIn K mainGlobals "_law_next" = some (some (.ref fNX)))
    (lNX : K.lookup fNX = some ⟨ocNX, odNX, .func (PySem.W.fnOf "_law_next" "_law_next" (defArgs s_l_next) (defBody s_l_next) (defScope s_l_next) .none kVNX dcNX pmNX anNX (.ref cNX) ctNX), slNX⟩)
    (dNX : PySem.W.codeIn K (.ref cNX) "_law_next" = true)
    (kNX : PySem.W.keepIn K (.ref fNX) = true)
    (hNX : PySem.W.codeHdIn K cNX PNX = true)
    (oNX : K.lookup PNX = none)
    (eNX : h.get? PNX = some { cls := .none, data := .fields #[] })
    : ∃ (cN P : Addr) (fd : FuncData), h.get? P = some { cls := .none, data := .fields #[] } ∧ K.lookup P = none ∧ PySem.W.codeHdIn K cN P = true ∧ (∀ (s : Shared) (v : Value), BindsTo s fd ⟨[v], []⟩ [("_law_script", v)]) ∧ ∀ base : Heap, K.In base → base.Ns mainGlobals mg → TabB base mg cN P → FnOk l.prog w K mg base CX0 8 fa fd ["_law_script"] (spLaw K [(P, qL)]) := by
  have e := hfa.symm.trans (PySem.W.mg_of X G a5)
  cases e
  have T : Txt mg := ⟨PySem.W.mg_none_of X G z_abs, PySem.W.mg_none_of X G z_enumerate, PySem.W.mg_none_of X G z_int, PySem.W.mg_none_of X G z_isinstance, PySem.W.mg_none_of X G z_len, PySem.W.mg_none_of X G z_min, PySem.W.mg_none_of X G z_range, PySem.W.mg_none_of X G z_tuple⟩
  have D_mix := at_mk (st := s_l_mix) (ps := ["_law_number", "_law_turn"]) X G a0 l0 c0 k0 fun _ _ _ _ _ _ us hl => match us, hl with | [_, _], _ => rfl
  have D_hand := at_mk (st := s_l_hand) (ps := ["_law_script"]) X G a1 l1 c1 k1 fun _ _ _ _ _ _ us hl => match us, hl with | [_], _ => rfl
  have D_draw := at_mk (st := s_l_draw) (ps := ["_law_hand_here", "_law_many"]) X G a2 l2 c2 k2 fun _ _ _ _ _ _ us hl => match us, hl with | [_, _], _ => rfl
  have D_done := at_mk (st := s_l_done) (ps := ["_law_rows", "_law_log", "_law_at", "_law_worth"]) X G a3 l3 c3 k3 fun _ _ _ _ _ _ us hl => match us, hl with | [_, _, _, _], _ => rfl
  have D_told := at_mk (st := s_l_told) (ps := ["_law_told_here", "_law_due", "_law_left"]) X G a4 l4 c4 k4 fun _ _ _ _ _ _ us hl => match us, hl with | [_, _, _], _ => rfl
  refine ⟨cNX, PNX, PySem.W.fnOf "law" "law" (defArgs s_law) (defBody s_law) (defScope s_law) .none kV5 dc5 pm5 an5 cd5 ct5, eNX, oNX, hNX, fun s v => .of_eq rfl, fun base _ _ TB => ?_⟩
  have t_Bounce : ClsT K mg "Bounce" CBounce namesB := ⟨⟨⟨pgBounce, hdBounce, poBounce, saBounce⟩, haBounce, hnG, htG, hmBounce, kit_self⟩, PySem.W.mg_of X G aBounce, (all_cons noBounce_deed (all_cons noBounce_worth all_nil))⟩
  have F_Bounce_init := fun_mk (st := s_BI) lBounce_init cBounce_init kBounce_init
  have b_Bounce_init := F_Bounce_init.binds (ps := ["self", "deed", "worth"]) fun _ _ _ _ _ _ us hl => match us, hl with | [_, _, _], _ => rfl
  have mk_Bounce : L2.Mk K CBounce fBounce_init := ⟨mkBounce, gBounce_init, jBounce_init, kcBounce⟩
  have c1 := ok_mix (P := l.prog) (w := w) (base := base) T D_mix
  have c2 := ok_draw T c1 D_draw
  have mkB : MkC l.prog w K mg base 1 "Bounce" CBounce (spIni CBounce namesB) := ⟨_, _, _, ok_BI F_Bounce_init t_Bounce, mk_Bounce, t_Bounce.mg, b_Bounce_init⟩
  have nx : Cl l.prog w K mg base 3 "_law_next" (spNext CBounce [(PNX, qL)]) := ⟨_, _, _, ok_next T lNX dNX TB mkB, PySem.W.mg_of X G aNX, kNX, (fun_mk (st := s_l_next) lNX dNX kNX).binds fun _ _ _ _ _ _ us hl => match us, hl with | [_, _, _], _ => rfl⟩
  have dn := ok_done nx D_done
  have FRB : FunD K "run_bounces" "run_bounces" (defArgs s_p_run_bounces) (defBody s_p_run_bounces) (defScope s_p_run_bounces) [.int 1000000] [] fRB _ := ⟨⟨ocRB, odRB, .ref TdRB, kVRB, dcRB, pmRB, anRB, cdRB, ctRB, slRB, rfl, lRB, cRB, .inr ⟨by simp, TdRB, _, [.int 1000000 tkTD], nTD, rfl, lTD, rfl, .cons ⟨_, rfl⟩ .nil⟩, .inl rfl⟩, kRB⟩
  have rn := ok_runs t_Bounce dn FRB (PySem.W.mg_of X G aRB)
  have tl := ok_told (P := l.prog) (w := w) (base := base) T (PySem.W.mg_none_of X G z_bool) t_Bounce D_told
  exact ok_law T ⟨ok_hand T D_hand, c2, nx, rn, tl⟩ (fun_mk (st := s_law) l5 c5 k5)
theorem walk {l : PySem.W.OpenLaw} {q : Program} {loose : List Str} {XP : (Str → Option Value) → Heap → Prop} {YP : World → Heap → Prop} {d : DefRec} {K : Params → PySem.W.Frag} (hn : l.most = some 63) (hdf : d.params.defaults = [])
    (hY : ∀ (w : World) (h : Heap), YP w h → (K w.params).In h)
    (F : ∀ (w : World) (mg : Str → Option Value) (fa : Addr) (h : Heap), YP w h → (K w.params).In h → h.Ns mainGlobals mg → mg d.name = some (.ref fa) →
      ∃ (cN P : Addr) (fd : FuncData), h.get? P = some { cls := .none, data := .fields #[] } ∧ (K w.params).lookup P = none ∧ PySem.W.codeHdIn (K w.params) cN P = true ∧ (∀ (s : Shared) (v : Value), BindsTo s fd ⟨[v], []⟩ [("_law_script", v)]) ∧
        ∀ base : Heap, (K w.params).In base → base.Ns mainGlobals mg → TabB base mg cN P → FnOk l.prog w (K w.params) mg base CX0 8 fa fd ["_law_script"] (spLaw (K w.params) [(P, qL)])) :
    PySem.W.WalkO q loose XP YP l.row.toRowW d [] (fun f vs => PySem.call f vs) := by
  refine walk_ofTs (n := 63) (k := 8) (x := "_law_script") (CX := fun _ => CX0) hn (by decide) hdf ⟨rfl, by decide, by decide⟩ hY (fun w mg fa h Y KX G hmg => ?_) fun _ _ _ _ _ z => z
  obtain ⟨cN, P, fd, e1, e2, e3, e4, e5⟩ := F w mg fa h Y KX G hmg
  refine ⟨fd, [(cN, P)], spLaw (K w.params) [(P, qL)], fun p hp => ?_, fun p hp => ?_, fun p hp => ?_, e4, fun H a ns hl _ hT hS => ?_, fun base hk hn hTB => e5 base hk hn (hTB _ List.mem_cons_self)⟩
  · rw [List.mem_singleton.mp hp]; exact e1
  · rw [List.mem_singleton.mp hp]; exact e2
  · rw [List.mem_singleton.mp hp]; exact PySem.W.codeHd_of_K KX e3
  · refine ⟨a, ns, rfl, hS, hl, fun p hp => ?_, fun _ => rfl⟩
    rw [List.mem_singleton.mp hp]
    exact TabS.nil (hT (cN, P) List.mem_cons_self)
end K12


open PySem PySem.W PyProof.Rows in
set_option maxRecDepth 100000 in
set_option maxHeartbeats 0 in
theorem PySem.Challenge.cw_goonagain_k12_bounces_cut_and_gone_on_holds : PySem.Challenge.rw_goonagain_k12_bounces_cut_and_gone_on.Holds := by
  w_on; o_law; k_head; (case hw => w_witness2)
  k_fill
  refine K12.walk (l := PySem.Challenge.rw_goonagain_k12_bounces_cut_and_gone_on) rfl rfl (fun w h Y => PySem.W.km_in_of Y) ?F
  case F =>
    intro w mg fa h Y KX G hmg
    refine' K12.all_mk KX G hmg ?a0 ?l0 ?c0 ?k0 ?a1 ?l1 ?c1 ?k1 ?a2 ?l2 ?c2 ?k2 ?a3 ?l3 ?c3 ?k3 ?a4 ?l4 ?c4 ?k4 ?a5 ?l5 ?c5 ?k5 ?z_abs ?z_enumerate ?z_int ?z_isinstance ?z_len ?z_min ?z_range ?z_tuple ?z_bool ?hnG ?htG ?aBounce ?pgBounce ?hdBounce ?poBounce ?saBounce ?mkBounce ?kcBounce ?haBounce ?hmBounce ?noBounce_deed ?noBounce_worth ?gBounce_init ?jBounce_init ?lBounce_init ?cBounce_init ?kBounce_init ?aRB ?lRB ?cRB ?kRB ?lTD ?aNX ?lNX ?dNX ?kNX ?hNX ?oNX ?eNX
    (case a0 => k_is)
    (case l0 => k_is)
    (case c0 => k_is)
    (case k0 => k_is)
    (case a1 => k_is)
    (case l1 => k_is)
    (case c1 => k_is)
    (case k1 => k_is)
    (case a2 => k_is)
    (case l2 => k_is)
    (case c2 => k_is)
    (case k2 => k_is)
    (case a3 => k_is)
    (case l3 => k_is)
    (case c3 => k_is)
    (case k3 => k_is)
    (case a4 => k_is)
    (case l4 => k_is)
    (case c4 => k_is)
    (case k4 => k_is)
    (case a5 => k_is)
    (case l5 => k_is)
    (case c5 => k_is)
    (case k5 => k_is)
    (case z_abs => k_is)
    (case z_enumerate => k_is)
    (case z_int => k_is)
    (case z_isinstance => k_is)
    (case z_len => k_is)
    (case z_min => k_is)
    (case z_range => k_is)
    (case z_tuple => k_is)
    (case z_bool => k_is)
    (case hnG => k_is)
    (case htG => k_is)
    (case aBounce => k_is)
    (case pgBounce => k_is)
    (case hdBounce => k_is)
    (case poBounce => k_is)
    (case saBounce => k_is)
    (case mkBounce => k_is)
    (case kcBounce => k_is)
    (case haBounce => k_is)
    (case hmBounce => k_is)
    (case noBounce_deed => k_is)
    (case noBounce_worth => k_is)
    (case gBounce_init => k_is)
    (case jBounce_init => k_is)
    (case lBounce_init => k_is)
    (case cBounce_init => k_is)
    (case kBounce_init => k_is)
    (case aRB => k_is)
    (case lRB => k_is)
    (case cRB => k_is)
    (case kRB => k_is)
    (case lTD => k_is)
    (case aNX => k_is)
    (case lNX => k_is)
    (case dNX => k_is)
    (case kNX => k_is)
    (case eNX => exact PySem.W.km_tabs_of Y _ List.mem_cons_self)
    (case hNX => first | kernel_rfl | rfl)
    (case oNX => first | kernel_rfl | rfl)
