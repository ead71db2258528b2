import PyProof.Rows.All
import Wide.All
import OpenK.AllK
import Wide.FinOn
import HandS.ForMost
import HandS.Codes
import HandS.Wide
import HandS.TupAny
import HandS.Conv
import HandS.RevRange
import HandS.SortInts
import HandS.RaiseMore
import HandS.Style
import HandS.Walk
import HandS.Zip
import HandS.More
import KE.GoesEnum
import KE.GoesMore
import KE.KDictList
import KE.KDictSum
import HandS.IsInst
import HandS.Deep
import HandS.Exc
import HandS.ExcOwn
import HandS.ExcIs
import HandS.ExcField
import HandS.WordsExc
import HandS.TupMul
import PyProof.Rows.SortShellAny
import HandS.ExcInit
import HandS.ExcValue
import HandS.Text
import HandS.OwnEq
import HandS.TupLen
import HandS.Strs
import PySem.Challenge.RW_goonagain_k32_whole_listings_read_back_o
set_option Elab.async false
set_option maxRecDepth 100000
set_option maxHeartbeats 4000000
/-! common part: what a call keeps, data, repr, the hand of draws -/
namespace Cm
open PySem L2

/-! ### what is kept but at the lists M -/
structure Kp (M : Addr → Prop) (H H' : Hp) : Prop where
  st : ∀ a o, ¬ M a → H a = some o → H' a = some o
  l1 : ∀ a, M a → ∃ xs, H a = some (.lst xs)
  l2 : ∀ a, M a → ∃ xs, H' a = some (.lst xs)
theorem Kp.trans {M : Addr → Prop} {H H1 H2 : Hp} (a : Kp M H H1) (b : Kp M H1 H2) : Kp M H H2 :=
  ⟨fun x o n e => b.st x o n (a.st x o n e), a.l1, b.l2⟩
theorem Kp.of_same {M : Addr → Prop} {H H' : Hp} (h : ∀ a, M a → ∃ xs, H a = some (.lst xs)) (s : Same H H') : Kp M H H' :=
  ⟨fun x o _ e => s x o e, h, fun a m => let ⟨xs, e⟩ := h a m; ⟨xs, s a _ e⟩⟩
theorem Kp.refl {M : Addr → Prop} {H : Hp} (h : ∀ a, M a → ∃ xs, H a = some (.lst xs)) : Kp M H H := .of_same h (Same.refl H)
theorem same_new {H : Hp} {p : Addr} {o : HO} (h : H p = Option.none) : Same H (upd H p o) := fun b u e => by
  rw [upd_ne (ne_of_none e h)]
  exact e
theorem Kp.new {M : Addr → Prop} {H : Hp} (h : ∀ a, M a → ∃ xs, H a = some (.lst xs)) {p : Addr} {o : HO} (hp : H p = Option.none) : Kp M H (upd H p o) :=
  .of_same h (same_new hp)
theorem Kp.put {M : Addr → Prop} {H : Hp} (h : ∀ a, M a → ∃ xs, H a = some (.lst xs)) {p : Addr} {ys : List V} (hp : M p) : Kp M H (upd H p (.lst ys)) :=
  ⟨fun x o n e => by
    rw [upd_ne (show x ≠ p by rintro rfl; exact n hp)]
    exact e, h, fun a m => by
    by_cases q : a = p
    · subst q
      exact ⟨ys, upd_same⟩
    · rw [upd_ne q]
      exact h a m⟩
theorem Kp.wider {M N : Addr → Prop} {H H' : Hp} (k : Kp M H H') (h : ∀ a, M a → N a) (l : ∀ a, N a → ∃ xs, H a = some (.lst xs)) : Kp N H H' :=
  ⟨fun x o n e => k.st x o (fun m => n (h x m)) e, l, fun a m => by
    by_cases q : M a
    · exact k.l2 a q
    · obtain ⟨xs, e⟩ := l a m
      exact ⟨xs, k.st a _ q e⟩⟩
theorem Kp.tup {M : Addr → Prop} {K : PySem.W.Frag} {H H' : Hp} {a : Addr} {xs : List V} (k : Kp M H H') (h : SqT K H a xs) : SqT K H' a xs := by
  have no : ∀ o, H a = some o → (∀ ys, o ≠ .lst ys) → ¬ M a := fun o e n m => by
    obtain ⟨ys, e2⟩ := k.l1 a m
    rw [e] at e2
    exact n ys (Option.some.inj e2)
  rcases h with (h | ⟨o, h⟩) | h
  · exact .inl (.inl (k.st _ _ (no _ h fun _ z => nomatch z) h))
  · exact .inl (.inr ⟨o, k.st _ _ (no _ h fun _ z => nomatch z) h⟩)
  · exact .inr h
theorem Kp.free {M : Addr → Prop} {H H' : Hp} {p : Addr} (k : Kp M H H') (h : H' p = Option.none) : H p = Option.none := by
  cases e : H p with
  | none => rfl
  | some o =>
    by_cases q : M p
    · obtain ⟨xs, e2⟩ := k.l2 p q
      rw [h] at e2
      cases e2
    · have := k.st p o q e
      rw [h] at this
      cases this
theorem Kp.m_of {M : Addr → Prop} {H H' : Hp} {p : Addr} (k : Kp M H H') (h : H p = Option.none) : ¬ M p := fun m => by
  obtain ⟨xs, e⟩ := k.l1 p m
  rw [h] at e
  cases e

/-! ### data -/
mutual
/-- no list, no dict in it -/
def flatD : PyData → Bool
  | .list _ => false
  | .dict _ => false
  | .tuple xs => flatDs xs
  | _ => true
def flatDs : List PyData → Bool
  | [] => true
  | x :: xs => flatD x && flatDs xs
end
mutual
theorem dp_keep {K : PySem.W.Frag} {H H' : Hp} (k : ∀ a xs, SqT K H a xs → SqT K H' a xs) : ∀ (d : PyData) (v : V), flatD d = true → Dp K H v d → Dp K H' v d
  | .none, _, _, h => by cases h; exact .non
  | .bool _, _, _, h => by cases h; exact .bl _
  | .int _, _, _, h => by cases h; exact .int _
  | .str _, _, _, h => by cases h; exact .str _
  | .list _, _, f, _ => by simp [flatD] at f
  | .dict _, _, f, _ => by simp [flatD] at f
  | .tuple ds, _, f, h => by
    cases h with
    | tup hs ha => exact .tup (k _ _ hs) (dps_keep k ds _ (by simpa [flatD] using f) ha)
theorem dps_keep {K : PySem.W.Frag} {H H' : Hp} (k : ∀ a xs, SqT K H a xs → SqT K H' a xs) : ∀ (ds : List PyData) (vs : List V), flatDs ds = true → DpAll K H vs ds → DpAll K H' vs ds
  | [], _, _, h => by cases h; exact .nil
  | d :: ds, _, f, h => by
    cases h with
    | cons h1 h2 =>
      have f' : flatD d = true ∧ flatDs ds = true := by simpa [flatDs] using f
      exact .cons (dp_keep k d _ f'.1 h1) (dps_keep k ds _ f'.2 h2)
end
mutual
/-- all lists in it are kept as well -/
theorem dp_same {K : PySem.W.Frag} {H H' : Hp} (s : Same H H') : ∀ (d : PyData) (v : V), Dp K H v d → Dp K H' v d
  | .none, _, h => by cases h; exact .non
  | .bool _, _, h => by cases h; exact .bl _
  | .int _, _, h => by cases h; exact .int _
  | .str _, _, h => by cases h; exact .str _
  | .dict _, _, h => by cases h
  | .list ds, _, h => by
    cases h with
    | lst hs ha => exact .lst (s.seq hs) (dps_same s ds _ ha)
  | .tuple ds, _, h => by
    cases h with
    | tup hs ha =>
      refine .tup ?_ (dps_same s ds _ ha)
      rcases hs with (h | ⟨o, h⟩) | h
      · exact .inl (.inl (s _ _ h))
      · exact .inl (.inr ⟨o, s _ _ h⟩)
      · exact .inr h
theorem dps_same {K : PySem.W.Frag} {H H' : Hp} (s : Same H H') : ∀ (ds : List PyData) (vs : List V), DpAll K H vs ds → DpAll K H' vs ds
  | [], _, h => by cases h; exact .nil
  | d :: ds, _, h => by
    cases h with
    | cons h1 h2 => exact .cons (dp_same s d _ h1) (dps_same s ds _ h2)
end
theorem DpAll.len {K : PySem.W.Frag} {H : Hp} : ∀ {vs : List V} {ds : List PyData}, DpAll K H vs ds → vs.length = ds.length
  | _, _, .nil => rfl
  | _, _, .cons _ h => congrArg (· + 1) (DpAll.len h)
theorem DpAll.at {K : PySem.W.Frag} {H : Hp} : ∀ {vs : List V} {ds : List PyData} {i : Nat} {d : PyData}, DpAll K H vs ds → ds[i]? = some d → ∃ v, vs[i]? = some v ∧ Dp K H v d
  | _, _, 0, d, .cons h _, e => by
    simp at e
    subst e
    exact ⟨_, rfl, h⟩
  | _, _, i + 1, d, .cons _ h, e => by
    obtain ⟨v, h1, h2⟩ := DpAll.at (i := i) (d := d) h (by simpa using e)
    exact ⟨v, by simpa using h1, h2⟩
theorem DpAll.atV {K : PySem.W.Frag} {H : Hp} : ∀ {vs : List V} {ds : List PyData} {i : Nat} {v : V}, DpAll K H vs ds → vs[i]? = some v → ∃ d, ds[i]? = some d ∧ Dp K H v d
  | _, _, 0, d, .cons h _, e => by
    simp at e
    subst e
    exact ⟨_, rfl, h⟩
  | _, _, i + 1, d, .cons _ h, e => by
    obtain ⟨v, h1, h2⟩ := DpAll.atV (i := i) (v := d) h (by simpa using e)
    exact ⟨v, by simpa using h1, h2⟩
theorem DpAll.snoc {K : PySem.W.Frag} {H : Hp} {v : V} {d : PyData} (h : Dp K H v d) : ∀ {vs : List V} {ds : List PyData}, DpAll K H vs ds → DpAll K H (vs ++ [v]) (ds ++ [d])
  | _, _, .nil => .cons h .nil
  | _, _, .cons a b => .cons a (DpAll.snoc h b)
theorem DpAll.app {K : PySem.W.Frag} {H : Hp} : ∀ {vs ws : List V} {ds es : List PyData}, DpAll K H vs ds → DpAll K H ws es → DpAll K H (vs ++ ws) (ds ++ es)
  | _, _, _, _, .nil, h => h
  | _, _, _, _, .cons a b, h => .cons a (DpAll.app b h)
theorem DpAll.take {K : PySem.W.Frag} {H : Hp} (n : Nat) : ∀ {vs : List V} {ds : List PyData}, DpAll K H vs ds → DpAll K H (vs.take n) (ds.take n) := by
  induction n with
  | zero => intro vs ds _; exact .nil
  | succ n ih =>
    intro vs ds h
    cases h with
    | nil => exact .nil
    | cons a b => exact .cons a (ih b)
theorem DpAll.drop {K : PySem.W.Frag} {H : Hp} (n : Nat) : ∀ {vs : List V} {ds : List PyData}, DpAll K H vs ds → DpAll K H (vs.drop n) (ds.drop n) := by
  induction n with
  | zero => intro vs ds h; exact h
  | succ n ih =>
    intro vs ds h
    cases h with
    | nil => exact .nil
    | cons a b => exact ih b
theorem DpAll.rev {K : PySem.W.Frag} {H : Hp} : ∀ {vs : List V} {ds : List PyData}, DpAll K H vs ds → DpAll K H vs.reverse ds.reverse
  | _, _, .nil => .nil
  | _, _, .cons a b => by
    rw [List.reverse_cons, List.reverse_cons]
    exact DpAll.snoc a (DpAll.rev b)
theorem dpAll_ints {K : PySem.W.Frag} {H : Hp} : ∀ ns : List Int, DpAll K H (ns.map V.int) (ns.map PyData.int)
  | [] => .nil
  | n :: ns => .cons (.int n) (dpAll_ints ns)

/-! ### repr of data -/
/-- what repr sees at a value: data of lists and tuples, or a dict of int keys whose values are data without lists -/
def Rp (K : PySem.W.Frag) (H : Hp) (x : V) (d : PyData) : Prop :=
  Dp K H x d ∨ ∃ (a : Addr) (kvs : List (Key × V)) (es : List (Int × PyData)), x = .ref a ∧ H a = some (.dK kvs) ∧ kvs.map (·.1) = es.map (fun e => Sum.inl e.1) ∧
    DpAll K H (kvs.map (·.2)) (es.map (·.2)) ∧ flatDs (es.map (·.2)) = true ∧ d = .dict (es.map fun e => (.int e.1, e.2))
mutual
/-- short leaves -/
def okD : PyData → Bool
  | .int i => decide (i.natAbs < 10 ^ 12)
  | .str x => PyData.leavesShort 13 (.str x)
  | .list xs => okDs xs
  | .tuple xs => okDs xs
  | .dict kvs => okDk kvs
  | _ => true
def okDs : List PyData → Bool
  | [] => true
  | x :: xs => okD x && okDs xs
def okDk : List (PyData × PyData) → Bool
  | [] => true
  | (k, v) :: r => okD k && okD v && okDk r
end
mutual
theorem okD_show : ∀ d : PyData, okD d = true → d.showable = true ∧ d.leavesShort 13 = true
  | .none, _ => by constructor <;> first | rfl | decide +kernel | simp [PyData.showable, PyData.leavesShort]
  | .bool b, _ => by cases b <;> constructor <;> first | rfl | decide +kernel
  | .int i, h => by
    have h' : i.natAbs < 10 ^ 12 := by simpa [okD] using h
    refine ⟨?_, ?_⟩
    · have : i.natAbs.log2 < 1920 := by
        by_cases z : i.natAbs = 0
        · rw [z]; decide
        · refine Nat.lt_of_lt_of_le ((Nat.log2_lt z).mpr (show i.natAbs < 2 ^ 64 from Nat.lt_of_lt_of_le h' (by decide))) (by decide)
      simpa [PyData.showable] using this
    · have := PyData.shown_int_le h'
      simpa [PyData.leavesShort] using this
  | .str x, h => by
    exact ⟨by simp [PyData.showable], by simpa only [okD] using h⟩
  | .list xs, h => by
    have := okDs_show xs (by simpa [okD] using h)
    exact ⟨by simpa [PyData.showable] using this.1, by simpa [PyData.leavesShort] using this.2⟩
  | .tuple xs, h => by
    have := okDs_show xs (by simpa [okD] using h)
    exact ⟨by simpa [PyData.showable] using this.1, by simpa [PyData.leavesShort] using this.2⟩
  | .dict kvs, h => by
    have := okDk_show kvs (by simpa [okD] using h)
    exact ⟨by simpa [PyData.showable] using this.1, by simpa [PyData.leavesShort] using this.2⟩
theorem okDs_show : ∀ xs : List PyData, okDs xs = true → PyData.showableAll xs = true ∧ PyData.leavesShortAll 13 xs = true
  | [], _ => ⟨by simp [PyData.showableAll], by simp [PyData.leavesShortAll]⟩
  | x :: xs, h => by
    have h' : okD x = true ∧ okDs xs = true := by simpa [okDs] using h
    have a := okD_show x h'.1
    have b := okDs_show xs h'.2
    exact ⟨by simp [PyData.showableAll, a.1, b.1], by simp [PyData.leavesShortAll, a.2, b.2]⟩
theorem okDk_show : ∀ xs : List (PyData × PyData), okDk xs = true → PyData.showableKv xs = true ∧ PyData.leavesShortKv 13 xs = true
  | [], _ => ⟨by simp [PyData.showableKv], by simp [PyData.leavesShortKv]⟩
  | (k, v) :: xs, h => by
    have h' : (okD k = true ∧ okD v = true) ∧ okDk xs = true := by simpa [okDk] using h
    have a := okD_show k h'.1.1
    have b := okD_show v h'.1.2
    have c := okDk_show xs h'.2
    exact ⟨by simp [PyData.showableKv, a.1, b.1, c.1], by simp [PyData.leavesShortKv, a.2, b.2, c.2]⟩
end
mutual
theorem no_as {h : Heap} : ∀ (d : PyData) (u : Value) (as : List Addr), flatD d = true → Reads h u d as → as = []
  | .none, _, _, _, r => by cases r; rfl
  | .bool _, _, _, _, r => by cases r; rfl
  | .int _, _, _, _, r => by cases r; rfl
  | .str _, _, _, _, r => by cases r; rfl
  | .list _, _, _, f, _ => by simp [flatD] at f
  | .dict _, _, _, f, _ => by simp [flatD] at f
  | .tuple ds, _, _, f, r => by
    cases r with
    | tuple _ _ _ ha => exact no_ass ds _ _ (by simpa [flatD] using f) ha
theorem no_ass {h : Heap} : ∀ (ds : List PyData) (us : List Value) (as : List Addr), flatDs ds = true → ReadsAll h us ds as → as = []
  | [], _, _, _, r => by cases r; rfl
  | d :: ds, _, _, f, r => by
    have f' : flatD d = true ∧ flatDs ds = true := by simpa [flatDs] using f
    cases r with
    | cons r1 r2 => rw [no_as d _ _ f'.1 r1, no_ass ds _ _ f'.2 r2]; rfl
end
mutual
theorem dp_nodict {K : PySem.W.Frag} {H : Hp} : ∀ (d : PyData) (v : V), Dp K H v d → d.hasDict = false
  | .none, _, _ => by simp [PyData.hasDict]
  | .bool _, _, _ => by simp [PyData.hasDict]
  | .int _, _, _ => by simp [PyData.hasDict]
  | .str _, _, _ => by simp [PyData.hasDict]
  | .dict _, _, h => by cases h
  | .list ds, _, h => by
    cases h with
    | lst _ ha => simpa [PyData.hasDict] using dps_nodict ds _ ha
  | .tuple ds, _, h => by
    cases h with
    | tup _ ha => simpa [PyData.hasDict] using dps_nodict ds _ ha
theorem dps_nodict {K : PySem.W.Frag} {H : Hp} : ∀ (ds : List PyData) (vs : List V), DpAll K H vs ds → PyData.hasDictAll ds = false
  | [], _, _ => by simp [PyData.hasDictAll]
  | d :: ds, _, h => by
    cases h with
    | cons h1 h2 => simp [PyData.hasDictAll, dp_nodict d _ h1, dps_nodict ds _ h2]
end
theorem flatDs_ints : ∀ ks : List Int, flatDs (ks.map PyData.int) = true
  | [] => rfl
  | k :: ks => by simp [flatDs, flatD, flatDs_ints ks]
section
variable {X : Cx}
theorem dict_keys {prog : Program} {w : World} {h : Heap} : ∀ (es : List (Int × PyData)) (kvs : List (Key × V)) (l : List DictEntry) (vs : List (Key × Value)), kvs.map (·.1) = es.map (fun e => Sum.inl e.1) → KV kvs vs → Pairs (mixKind prog w) l vs →
    ReadsAll h (l.map (·.key)) (es.map fun e => PyData.int e.1) [] ∧ Vals (kvs.map (·.2)) (l.map (·.val))
  | [], kvs, l, vs, hk, r, p => by
    cases kvs with
    | cons a b => simp at hk
    | nil =>
      cases r
      cases p
      exact ⟨.nil, .nil⟩
  | e :: es, kvs, l, vs, hk, r, p => by
    cases kvs with
    | nil => simp at hk
    | cons a b =>
      simp only [List.map_cons, List.cons.injEq] at hk
      cases r with
      | @cons _ v _ vs' r1 r2 =>
        cases p with
        | @cons en _ l' _ p1 p2 p3 =>
          obtain ⟨q1, q2⟩ := dict_keys es b l' vs' hk.2 r2 p3
          have p1' : keyIs v.1 en.key = true := p1
          rw [← r1.1, hk.1] at p1'
          obtain ⟨t, et⟩ := Value.isInt_shape (k := e.1) (v := en.key) p1'
          refine ⟨?_, .cons ?_ q2⟩
          · rw [List.map_cons, List.map_cons, et]
            exact ReadsAll.cons (as := []) (bs := []) (Reads.int _ _) q1
          · show RelV a.2 en.val
            rw [p2]
            exact r1.2
def rRepr (K : PySem.W.Frag) : List V → Hp → VK → Prop := fun xs H Q => ∃ x d, xs = [x] ∧ Rp K H x d ∧ okD d = true ∧ d.depth ≤ 60 ∧ d.weight ≤ 2 ^ 20 ∧ Q (.str d.shown) H
theorem call_reprD (hg : X.A.guards = some []) (hu : X.A.units + 64 < cLine) : CallR X (.builtin "repr") (rRepr X.K) := by
  intro pins s σ H xs us Q I r h
  obtain ⟨x, d, rfl, hd, ok, hdep, hw, q⟩ := h
  obtain ⟨u, rfl, rx⟩ := vals1 r
  obtain ⟨hsh, hls⟩ := okD_show d ok
  have hsz : d.shown.length ≤ sizeLine := PyData.shown_fits (by decide) (by decide) hls hw
  have fin : ∀ (a : Addr) (as : List Addr), u = .ref a → Reads s.heap u d as → (d.hasDict = true → sysModules ∉ as) → wpAny (model X.prog X.w) X.A (call (.builtin "repr") [u]) (EP X pins σ Q) X.xe s := fun a as e rd no => by
    subst e
    exact repr_of_reads' rd hsh no hg (by omega) (fun _ _ e => e) (fun h' u tk k => ⟨.str _, H, I.kept k, ⟨_, rfl⟩, q⟩) hsz
  rcases hd with hd | ⟨a, kvs, es, rfl, ha, hk, hv, hf, rfl⟩
  · obtain ⟨as, rd⟩ := Dp.reads I d x u hd rx
    cases hd with
    | non => cases rx; exact P.repr_of_none ⟨.str _, H, I.tok _, ⟨_, rfl⟩, q⟩
    | bl b => cases rx; exact P.repr_of_bool ⟨.str _, H, I.tok _, ⟨_, rfl⟩, by cases b <;> exact q⟩
    | int i =>
      obtain ⟨t, rfl⟩ := rx
      exact P.repr_of_int (by simpa [PyData.showable] using hsh) ⟨.str _, H, I.tok _, ⟨_, rfl⟩, by simpa [PyData.shown] using q⟩
    | str z =>
      obtain ⟨t, rfl⟩ := rx
      exact P.repr_of_str ⟨.str _, H, I.tok _, ⟨_, rfl⟩, by simpa [PyData.shown] using q⟩ (by simpa [PyData.shown] using hsz)
    | lst hs ha =>
      have nd := dp_nodict _ _ (Dp.lst hs ha)
      cases rx
      exact fin _ as rfl rd fun z => by rw [nd] at z; cases z
    | tup hs ha =>
      have nd := dp_nodict _ _ (Dp.tup hs ha)
      cases rx
      exact fin _ as rfl rd fun z => by rw [nd] at z; cases z
  · cases rx
    obtain ⟨_, hsys, vs, rv, ob, dl, ep, e1, e2, e3, _, e5, _⟩ := (show kvs.length ≤ sizeLine ∧ (a == sysModules) = false ∧ ∃ vs, KV kvs vs ∧ s.heap.DictOf (mixKind X.prog X.w) a vs from dk_of I.hok ha)
    obtain ⟨q1, q2⟩ := dict_keys es kvs dl.toList vs hk rv e5
    obtain ⟨bs, q3⟩ := Dp.readsAll I _ _ _ hv q2
    obtain rfl := no_ass _ _ _ hf q3
    have rd : Reads s.heap (.ref a) (.dict (es.map fun e => (PyData.int e.1, e.2))) (a :: [] ++ []) :=
      .dict e1 e2.1 e3 (by rw [List.map_map]; exact q1) (by rw [List.map_map]; exact q3)
    exact fin a _ rfl rd fun _ m => by
      have : sysModules = a := by simpa using m
      rw [← this] at hsys
      simp at hsys
end
end Cm

/-! a law's call whose body may ask repr: nothing is under repr there -/
namespace Cm
open PySem L2 PySem.Spec PyProof.Rows
section
variable {P : Program} {w : World} {K : PySem.W.Frag} {mg : Str → Option Value} {base : Heap}
/-- the promise of the law's def, where no repr is under way -/
def LawAt (P : Program) (w : World) (K : PySem.W.Frag) (mg : Str → Option Value) (base : Heap) (k : Nat) (f : Addr) (fd : FuncData) (ps : List Str) (sp : Sp) : Prop :=
  ∀ (A : Around) (outer : List Env) (s : Shared) (H : Hp) (args : Args) (us : List Value) (vs : List V) (Q : VK) (E : XK),
    A.guards = some [] → Room k A → Env0 P w K mg base A outer s H → BindsTo s fd args (ps.zip us) → Vals vs us → sp vs H Q E →
      codeAny (model P w) A (.call (.ref f) args) (CR CX0 outer P w H s Q E) s
theorem lawAt_of {x : Str} {st : Stmt} {f : Addr} {fd : FuncData} {N ps : List Str} {k : Nat} {sp : Sp} (F : Fun K x x st f fd) (S : FnScope N ps (defScope st))
    (len : ∀ vs H Q E, sp vs H Q E → vs.length = ps.length)
    (hb : ∀ (cdv : Value) (A : Around) (outer : List Env) (s : Shared) (H : Hp) (vs : List V) (Q : VK) (E : XK), A.guards = some [] →
      Room k (A.deeper (envOfC x (defScope st) s.heap.objs.size f cdv)) → sp vs H Q E →
      ∃ t, PSs (cxOf CX0 P w K mg base N x (defScope st) f cdv A outer s H E).nox (defBody st) t ∧ t { nx := fun _ H' => Q .non H', rt := Q } (start N vs) H) :
    LawAt P w K mg base (k + 1) f fd ps sp := by
  intro A outer s H args us vs Q E hg hr e0 hbind rv hs
  obtain ⟨oc, od, kV, doc, pm, an, cdv, ct, osl, rfl, lk, hcd⟩ := F.ex
  have keeps : ∀ b o, base.get? b = some o → s.heap.get? b = some o := fun b o e => (e0.bs b o e).1
  have KX : K.In s.heap := e0.mod.kin.keeps keeps
  refine codeAny_call_function hr.depth (KX _ _ lk) rfl S.co S.gen rfl (PySem.W.codeRec_of KX hcd) (hbind _ _ _ _ ?_)
  refine wpAny_newFunctionEnv_cells S.kind (fun z hz => ?_) fun env he s1 xc => ?_
  · rcases S.par z.1 (List.of_mem_zip (show (z.1, z.2) ∈ ps.zip us from hz)).1 with q | q
    · exact Or.inl q
    · exact Or.inr ⟨q, PySem.W.cellsFrom_some _ _ _ (Or.inl q)⟩
  · subst he
    refine ⟨(e0.mod.nolimit.keeps keeps).keeps xc.toInCall.keep, codeAny_func ?_⟩
    obtain ⟨t, ht, hq⟩ := hb cdv A outer s H vs Q E hg (hr.deeper _) hs
    have I := inv_start (E := E) (CX := CX0) S hr.hd e0 (len _ _ _ _ hs) rv xc
    refine wpAny_mono (ht.nox.run [] s1 (start N vs) H _ I hq) (fun fl s' hz => ?_) fun e s' hz => hz
    cases fl with
    | ret u =>
      obtain ⟨v, _, H', J, r, q⟩ := hz
      exact ⟨v, H', J.os, J.bare, J.base, J.hok, r, q⟩
    | next =>
      obtain ⟨_, H', J, q⟩ := hz
      exact ⟨V.non, H', J.os, J.bare, J.base, J.hok, rfl, q⟩
    | brk =>
      obtain ⟨_, _, _, q⟩ := hz
      exact q.elim
    | cont =>
      obtain ⟨_, _, _, q⟩ := hz
      exact q.elim
end
/-- the script tracked at a: known to the object, or one of the module's own -/
def scriptH (a : Addr) (o : Obj) (ns : List Int) : Hp := fun b => if b = a then some (.frz o (.lst (ns.map V.int))) else Option.none
theorem law_goes {P : Program} {w : World} {K : PySem.W.Frag} {mg mb : Str → Option Value} {k : Nat} {fa a : Addr} {fd : FuncData} {x : Str} {sp : Sp} {s₁ : Shared} {vs : List Value} {ns : List Int}
    (KX : K.In s₁.heap) (hns : s₁.heap.Ns mainGlobals mg) (hb : s₁.heap.Ns builtinsNs mb)
    (hbb : ∀ x : Str, x ≠ "__name__" → mb x = bootBuiltins x) (hlim : s₁.heap.NoLimit) (hg : s₁.gens = #[])
    (ha : s₁.heap.get? a = some { cls := .type "list", data := .seq vs.toArray }) (hi : IntsAre vs ns) (hl : ns.length ≤ sizeLine) (hr : Room k callerA)
    (F : ∀ b : Heap, K.In b → b.Ns mainGlobals mg → LawAt P w K mg b k fa fd [x] sp)
    (hbind : ∀ (s : Shared) (u : Value), BindsTo s fd ⟨[u], []⟩ [(x, u)])
    (hsp : ∀ H : Hp, Only H → SqL K H a (ns.map V.int) → sp [.ref a] H (fun v _ => v = .bl true) fun _ _ _ => False) :
    codeAny (model P w) callerA (.call (.ref fa) ⟨[.ref a], []⟩)
      (fun r s' => r = .ok (.ret (.bool true)) ∧ OldK s₁.heap s'.heap ∧ s'.os = s₁.os ∧ AllBare s'.gens) s₁ := by
  have rv := vals_ints hi
  have main : ∀ H : Hp, Only H → SqL K H a (ns.map V.int) → HOk P w H s₁.heap → (∀ b, H b ≠ Option.none → b = a ∧ K.lookup a = Option.none) →
      codeAny (model P w) callerA (.call (.ref fa) ⟨[.ref a], []⟩)
        (fun r s' => r = .ok (.ret (.bool true)) ∧ OldK s₁.heap s'.heap ∧ s'.os = s₁.os ∧ AllBare s'.gens) s₁ := by
    intro H hO hS hok hA
    have free_ns : ∀ {b : Addr} {o : Obj} {es : Array DictEntry} {ep : Nat}, s₁.heap.get? b = some o → o.data = .dict es ep → H b = Option.none := fun {b o es ep} e d => by
      by_cases q : H b = Option.none
      · exact q
      · obtain ⟨rfl, _⟩ := hA b q
        rw [ha] at e
        cases e
        cases d
    have ns_of : ∀ {b : Addr} {m : Str → Option Value}, s₁.heap.Ns b m → (hidT s₁.heap H).Ns b m := fun h => by
      obtain ⟨o, es, ep, e, d, r⟩ := h
      exact ⟨o, es, ep, hidT_get e (free_ns e d), d, r⟩
    have kin : K.In (hidT s₁.heap H) := fun b o e => hidT_get (KX b o e) (by
      by_cases q : H b = Option.none
      · exact q
      · obtain ⟨rfl, q2⟩ := hA b q
        rw [q2] at e
        cases e)
    obtain ⟨mc, l1, l2⟩ := hlim
    have e0 : Env0 P w K mg (hidT s₁.heap H) callerA [] s₁ H :=
      { frames := rfl, mod := ⟨kin, ns_of hns, ⟨mb, ns_of hb, hbb⟩, ⟨mc, ns_of l1, l2⟩⟩, bs := fun b o e => of_hidT e, bsz := Nat.le_of_eq (hidT_size _ _),
        funs := trivial, frf := fun b z => absurd (show b ∈ ([] : List Addr) from z) (by simp), hok := hok, bare := .of_eq hg }
    have run := F _ kin (ns_of hns) callerA [] s₁ H ⟨[.ref a], []⟩ [.ref a] [.ref a] _ _ rfl hr e0 (hbind s₁ (.ref a)) (.cons rfl .nil) (hsp H hO hS)
    refine codeAny_mono run fun r s' h => ?_
    rcases r with e | fl
    · exact False.elim h
    · cases fl with
      | ret u =>
        obtain ⟨v, H', os, bare, un, hok', r', q⟩ := h
        have q' : v = .bl true := q
        subst q'
        have eu : u = Value.bool true := r'
        subst eu
        refine ⟨rfl, OldK.of_keep fun b o e => ?_, os, bare⟩
        by_cases q : H b = Option.none
        · exact un.keep b o e q (fun z => absurd (show b ∈ ([] : List Addr) from z) (by simp)) (by simp)
        · rcases hO b with z | ⟨ob, xs, z⟩
          · exact absurd z q
          · have e1 := (hok b _ z).1
            have e2 := (hok' b _ (un.frzs b ob _ z)).1
            rw [e] at e1
            cases e1
            exact e2
      | next => exact False.elim h
      | brk => exact False.elim h
      | cont => exact False.elim h
  by_cases hk : K.lookup a = Option.none
  · refine main (scriptH a { cls := .type "list", data := .seq vs.toArray } ns) (fun b => ?_) (.inl (.inr ⟨_, if_pos rfl⟩)) (fun b u z => ?_) fun b z => ?_
    · by_cases q : b = a
      · exact .inr ⟨_, _, if_pos q⟩
      · exact .inl (if_neg q)
    · unfold scriptH at z
      by_cases q : b = a
      · rw [if_pos q] at z
        cases z
        subst q
        exact ⟨ha, by rw [List.length_map]; exact hl, vs, _, rv, ha⟩
      · rw [if_neg q] at z
        cases z
    · by_cases q : b = a
      · exact ⟨q, hk⟩
      · exact absurd (if_neg q) z
  · obtain ⟨o, ho⟩ : ∃ o, K.lookup a = some o := by
      cases e : K.lookup a with
      | none => exact absurd e hk
      | some o => exact ⟨o, rfl⟩
    have e := KX a o ho
    rw [ha] at e
    cases e
    refine main (fun _ => Option.none) (fun _ => .inl rfl) ?_ (fun b u z => by cases z) fun b z => absurd rfl z
    exact .inr ⟨_, vs.toArray, _, ho, rfl, rfl, rfl, by rw [List.size_toArray, hi.length]; exact hl, by simpa using rv⟩
theorem walk_law {l : PySem.W.OpenLaw} {n k : Nat} {q : Program} {loose : List Str} {XP : (Str → Option Value) → Heap → Prop} {YP : World → Heap → Prop} {d : DefRec} {K : Params → PySem.W.Frag} {sp : PySem.W.Frag → Sp} {x : Str}
    (hn : l.most = some n) (hn2 : n ≤ sizeLine) (hdf : d.params.defaults = []) (hr : Room k callerA)
    (hY : ∀ (w : World) (h : Heap), YP w h → (K w.params).In h)
    (F : ∀ (w : World) (mg : Str → Option Value) (fa : Addr) (h : Heap), (K w.params).In h → h.Ns mainGlobals mg → mg d.name = some (.ref fa) →
      ∃ fd : FuncData, (∀ (s : Shared) (u : Value), BindsTo s fd ⟨[u], []⟩ [(x, u)]) ∧
        ∀ b : Heap, (K w.params).In b → b.Ns mainGlobals mg → LawAt l.prog w (K w.params) mg b k fa fd [x] (sp (K w.params)))
    (hsp : ∀ (K : PySem.W.Frag) (H : Hp) (a : Addr) (ns : List Int), ns.length ≤ n → Only H → SqL K H a (ns.map V.int) → sp K [.ref a] H (fun v _ => v = .bl true) fun _ _ _ => False) :
    PySem.W.WalkO q loose XP YP l.row.toRowW d [] (fun f vs => PySem.call f vs) := by
  refine Att.attach_call hn hdf fun w s₀ s₁ mg mb fa o pm cd doc a vs ns G Y ho hd hcd hmg hobj hints hlen hg => ?_
  obtain ⟨fd, hb, hF⟩ := F w mg fa _ (hY w _ Y) G.T.g hmg
  exact law_goes (hY w _ Y) G.T.g G.T.b G.T.builtins G.T.nolimit hg hobj hints (Nat.le_trans hlen hn2) hr hF hb fun H hO hS => hsp _ H a ns hlen hO hS
end Cm

/-! defs that are called by name; the hand of draws -/
namespace Cm
open PySem L2 PySem.Spec PyProof.Rows
structure Cl (P : Program) (w : World) (K : PySem.W.Frag) (mg : Str → Option Value) (base : Heap) (k : Nat) (x : Str) (sp : Sp) : Prop where
  ex : ∃ (f : Addr) (fd : FuncData) (ps : List Str), FnOk P w K mg base CX0 k f fd ps sp ∧ mg x = some (.ref f) ∧ PySem.W.keepIn K (.ref f) = true ∧ Binds K fd ps []
/-- where a def of the text stands -/
structure At (K : PySem.W.Frag) (mg : Str → Option Value) (x : Str) (st : Stmt) (ps : List Str) : Prop where
  ex : ∃ (f : Addr) (fd : FuncData), Fun K x x st f fd ∧ mg x = some (.ref f) ∧ Binds K fd ps []
section
variable {P : Program} {w : World} {K : PySem.W.Frag} {mg : Str → Option Value} {base : Heap}
theorem cl_of {x : Str} {st : Stmt} {N ps : List Str} {k : Nat} {sp : Sp} (T : At K mg x st ps) (S : FnScope N ps (defScope st))
    (len : ∀ vs H Q E, sp vs H Q E → vs.length = ps.length)
    (hb : ∀ (f : Addr) (cdv : Value) (A : Around) (outer : List Env) (s : Shared) (H : Hp) (vs : List V) (Q : VK) (E : XK),
      Room k (A.deeper (envOfC x (defScope st) s.heap.objs.size f cdv)) → sp vs H Q E →
      ∃ t, PSs (cxOf CX0 P w K mg base N x (defScope st) f cdv A outer s H E).nox (defBody st) t ∧ t { nx := fun _ H' => Q .non H', rt := Q } (start N vs) H) :
    Cl P w K mg base (k + 1) x sp := by
  obtain ⟨f, fd, F, hm, b⟩ := T.ex
  exact ⟨f, fd, ps, F.ok S len (hb f), hm, F.kp, b⟩
end
section
variable {X : Cx} {j k : Nat} {x : Str} {sp : Sp} {e : Expr} {es : List Expr} {t : TA} {p pos : Pos}
theorem pe_c (c : Cl X.prog X.w X.K X.mg X.base k x sp) (hr : Room j X.A) (hk : k ≤ j) (hg : Gl X x) (ha : PA X (e :: es) t)
    (hdb : (x == ("__debug__" : Str)) = false := by decide) (he : starEach (e :: es) X.env = (false, eval e X.env) :: starEach es X.env := by rfl)
    (hpl : (backTo pos (starEach es X.env)).any (·.1) = false := by rfl) : PE X (.Call (.Name x p) (e :: es) [] pos) (tCall sp [] E0 t) := by
  obtain ⟨f, fd, ps, F, hm, kp, b⟩ := c.ex
  exact pe_call F (hr.mono hk) hg hm kp b .nil pass0 ha hdb he hpl
end

theorem map_at {α β : Type} {f : α → β} {xs : List α} {i : Nat} {y : β} (h : (xs.map f)[i]? = some y) : ∃ x, xs[i]? = some x ∧ y = f x := by
  rw [List.getElem?_map] at h
  obtain ⟨x, a, b⟩ := Option.map_eq_some_iff.mp h
  exact ⟨x, a, b.symm⟩

/-! ### a word between a statement and what follows it -/
def tMid (t u : TS) : TS := fun D σ H => ∃ M : L2.St → Hp → Prop, t { D with nx := M } σ H ∧ ∀ σ' H', M σ' H' → u D σ' H'
theorem pss_mid {X : Cx} {st : Stmt} {rest : List Stmt} {t u : TS} (h1 : PS X st t) (h2 : PSs X rest u) : PSs X (st :: rest) (tMid t u) :=
  ⟨fun pins s σ H D I h => by
    obtain ⟨M, hm, hu⟩ := h
    refine wpAny_execs_cons (thn (h1.run pins s σ H { D with nx := M } I hm) fun fl s1 q => ?_)
    cases fl with
    | next =>
      obtain ⟨σ', H', I', q⟩ := q
      exact h2.run pins s1 σ' H' D I' (hu σ' H' q)
    | ret v => exact q
    | brk => exact q
    | cont => exact q⟩

/-! ### the hand of draws -/
/-- a hand stands at h: the cells, how many were taken, a great cell that is drawn from, a sum -/
def Hand (H : Hp) (h c : Addr) : Prop := ∃ (cells : List Int) (i b t : Int), H h = some (.lst [.ref c, .int i, .int b, .int t]) ∧ H c = some (.lst (cells.map V.int)) ∧ c ≠ h ∧ 0 ≤ i ∧ cells.length ≤ 63
theorem Hand.lst {H : Hp} {h c : Addr} (x : Hand H h c) : ∃ xs, H h = some (.lst xs) := let ⟨_, _, _, _, e, _⟩ := x; ⟨_, e⟩
theorem Hand.same {H H' : Hp} {h c : Addr} (x : Hand H h c) (s : Same H H') : Hand H' h c := by
  obtain ⟨cells, i, b, t, e1, e2, n, z⟩ := x
  exact ⟨cells, i, b, t, s _ _ e1, s _ _ e2, n, z⟩
/-- the hand alone is changed -/
abbrev Kh (h : Addr) : Hp → Hp → Prop := Kp (fun a => a = h)
theorem Hand.kh {H H' : Hp} {h c : Addr} (x : Hand H h c) (s : Same H H') : Kh h H H' := .of_same (fun a m => by subst m; exact x.lst) s
theorem Hand.kr {H : Hp} {h c : Addr} (x : Hand H h c) : Kh h H H := x.kh (Same.refl H)

def spMix : Sp := fun vs H Q _ => ∃ a b : Int, vs = [.int a, .int b] ∧ ∀ n : Int, Q (.int n) H
def spHand (K : PySem.W.Frag) : Sp := fun vs H Q _ => ∃ (a : Addr) (ns : List Int), vs = [.ref a] ∧ SqL K H a (ns.map V.int) ∧ ns.length ≤ 63 ∧ ∀ h c H', Same H H' → H h = Option.none → H c = Option.none → Hand H' h c → Q (.ref h) H'
def spDraw : Sp := fun vs H Q _ => ∃ (h c : Addr) (m : Int), vs = [.ref h, .int m] ∧ Hand H h c ∧ 0 < m ∧ m < 2 ^ 100 ∧ ∀ (n : Int) (H' : Hp), 0 ≤ n → n < m → Kh h H H' → Hand H' h c → Q (.int n) H'
/-- pick out of a list or tuple -/
def spPick (K : PySem.W.Frag) : Sp := fun vs H Q _ => ∃ (h c a : Addr) (xs : List V), vs = [.ref h, .ref a] ∧ Hand H h c ∧ (SqL K H a xs ∧ a ≠ h ∨ SqT K H a xs) ∧ xs ≠ [] ∧ xs.length ≤ 1000 ∧
  ∀ (v : V) (H' : Hp), v ∈ xs → Kh h H H' → Hand H' h c → Q v H'
end Cm

/-! further rules: a tuple read backwards, enumerate over a tuple, sorted(d.keys()) -/
namespace Cm
open PySem L2 PySem.Spec PyProof.Rows
section
variable {prog : Program} {w : World} {A : Around} {E : Value → Shared → Prop} {s : Shared}
theorem adjust_back (n : Nat) : Builtin.Slice.sliceAdjust none none (-1) (n : Int) = ((n : Int) - 1, -1) := by
  unfold Builtin.Slice.sliceAdjust
  simp
theorem places_back (n : Nat) : Builtin.Slice.slicePlaces ((n : Int) - 1) (-1) (-1) = n := by
  unfold Builtin.Slice.slicePlaces
  simp
  try omega
theorem applied_back {sl : Addr} {vs : Value} {n : Nat} {Q : Int × Int × Nat → Shared → Prop} (hs : s.heap.IsSliceOf sl .none .none vs) (ps : IsPart vs (some (-1)))
    (h : Q ((n : Int) - 1, -1, n) s) : wpAny (model prog w) A (Builtin.Slice.sliceApplied (.ref sl) (pure (n : Int))) Q E s := by
  obtain ⟨os, hos, hcs, hds⟩ := id hs
  unfold Builtin.Slice.sliceApplied Builtin.Slice.sliceFields
  refine wpAny_bind (wpAny_bind (wpAny_field hos hds (x := .none) rfl (wpAny_bind (wpAny_field hos hds (x := .none) rfl (wpAny_bind (wpAny_field hos hds (x := vs) rfl (wpAny_pure ?_)))))))
  refine wpAny_bind (HT.slicePart_ ps ?_)
  show wpAny _ _ (if ((-1 : Int) == 0) = true then _ else _) _ _ s
  rw [if_neg (by decide)]
  refine wpAny_bind (slicePart_none (wpAny_bind (slicePart_none (wpAny_bind (wpAny_pure ?_)))))
  show wpAny _ _ (match Builtin.Slice.sliceAdjust none none (-1) (n : Int) with | (lo, hi) => pure (lo, (-1 : Int), Builtin.Slice.slicePlaces lo hi (-1))) _ _ s
  rw [adjust_back]
  show wpAny _ _ (pure ((n : Int) - 1, (-1 : Int), Builtin.Slice.slicePlaces ((n : Int) - 1) (-1) (-1))) _ _ s
  rw [places_back]
  exact wpAny_pure h
theorem filterMap_eqs {α β : Type} {f g : α → Option β} : ∀ l : List α, (∀ x ∈ l, f x = g x) → l.filterMap f = l.filterMap g
  | [], _ => rfl
  | x :: l, h => by
    rw [List.filterMap_cons, List.filterMap_cons, h x List.mem_cons_self, filterMap_eqs l fun y hy => h y (List.mem_cons_of_mem _ hy)]
theorem pick_all (m : List Value) : (List.range m.length).filterMap (fun k => m[k]?) = m := by
  induction m with
  | nil => rfl
  | cons a m ih =>
    rw [List.length_cons, List.range_succ_eq_map, List.filterMap_cons]
    simp only [List.getElem?_cons_zero, List.filterMap_map]
    refine congrArg _ (Eq.trans (filterMap_eqs _ fun k _ => ?_) ih)
    simp
theorem pick_back (xs : Array Value) : ((List.range xs.size).filterMap fun (k : Nat) => xs[((xs.size : Int) - 1 + (k : Int) * -1).toNat]?).toArray = xs.toList.reverse.toArray := by
  have h1 : (List.range xs.size).filterMap (fun (k : Nat) => xs[((xs.size : Int) - 1 + (k : Int) * -1).toNat]?) = (List.range xs.size).filterMap (fun k => xs.toList.reverse[k]?) := by
    refine filterMap_eqs _ fun k hk => ?_
    have hk' : k < xs.size := List.mem_range.mp hk
    have e2 : ((xs.size : Int) - 1 + (k : Int) * -1).toNat = xs.size - 1 - k := by omega
    rw [e2, List.getElem?_reverse (by simpa using hk'), Array.getElem?_toList]
    simp
  have h3 := pick_all xs.toList.reverse
  rw [List.length_reverse, Array.length_toList] at h3
  rw [h1, h3]
theorem getItem_tuple_back {t sl : Addr} {items : Array Value} {vs : Value} {Q : Value → Shared → Prop} (ht : IsTup s.heap t items) (hs : s.heap.IsSliceOf sl .none .none vs) (ps : IsPart vs (some (-1)))
    (h : Q (.ref s.heap.objs.size) { s with heap := s.heap.push { cls := .type "tuple", data := .seq items.toList.reverse.toArray } })
    (hsz : items.size ≤ sizeLine) : wpAny (model prog w) A (getItem (.ref t) (.ref sl)) Q E s := by
  have hok : sizeOk (.seq items.toList.reverse.toArray) := by
    show items.toList.reverse.toArray.size ≤ sizeLine
    rw [List.size_toArray, List.length_reverse, Array.length_toList]
    exact hsz
  obtain ⟨os, hos, hcs, hds⟩ := id hs
  have hTs : s.TypeIs (.ref sl) "slice" := ⟨os, hos, hcs⟩
  unfold getItem
  try with_reducible refine wpAny_holding ?_
  first | refine wpAny_bind (wpAny_pure ?_) | skip
  refine wpAny_bind (wpAny_sequenceKey ht.typeIs (by decide) ?_)
  refine wpAny_bind (wpAny_callSpecial?_slot (name := Str.ofString "__getitem__") ht.typeIs slot_tuple_getitem (wpAny_call_entry slot_tuple_getitem ht.typeIs PyProof.Rows.entry_tuple_getitem ?_ (PyProof.Rows.args_tuple_getitem _ _)))
  show wpAny _ _ (Builtin.Tuple.tupleItemsOf (.ref t) >>= _) _ _ s
  refine wpAny_bind (tupleItemsOf_ ht (wpAny_bind (wpAny_typeOf hTs ?_)))
  rw [if_pos (by decide)]
  refine wpAny_bind (applied_back (n := items.size) hs ps ?_)
  show wpAny _ _ (if ((((items.size : Int) - 1) == 0 && (-1 : Int) == 1 && items.size == items.size) = true) then _ else _) _ _ s
  rw [if_neg (by simp), pick_back]
  first
    | exact wpAny_bind (m := Builtin.Tuple.tupleExact _) (wpAny_newObj_type (wpAny_pure ⟨_, rfl, wpAny_pure h⟩) hok)
    | exact wpAny_bind (m := Builtin.Tuple.tupleExact _) (wpAny_newObj_type (wpAny_bind (wpAny_pure (wpAny_pure ⟨_, rfl, wpAny_pure h⟩))) hok)
end
section
variable {X : Cx}
def tRevT (K : PySem.W.Frag) (te : TE) : TE := fun σ H Q => te σ H fun x H1 => ∃ a xs, x = .ref a ∧ SqT K H1 a xs ∧ ∀ p, H1 p = Option.none → Q (.ref p) (upd H1 p (.tup xs.reverse))
theorem pe_revT {e : Expr} {te : TE} {k : Nat} {p1 p2 p3 pos : Pos} (he : PE X e te) : PE X (.Subscript e (.Slice none none (some (.UnaryOp .USub (.Constant (.int 1) k p1) p2)) p3) pos) (tRevT X.K te) := by
  refine ⟨fun pins s σ H Q I h => ?_⟩
  refine Subscript_ (thn (he.run pins s σ H _ I h) fun v s1 hz => ?_)
  obtain ⟨x, H1, I1, r1, a, xs, ex, hx, q⟩ := hz
  subst ex
  cases r1
  have hst : PO X (some (.UnaryOp .USub (.Constant (.int 1) k p1) p2)) (tPart (tUn (rU fun i => .int (-i)) (tC (.int 1)))) := po_some (pe_un un_neg pe_int)
  refine wpAny_Slice (thn (po_none.run pins s1 σ H1 (fun o H2 => o = none ∧ H2 = H1) I1 ⟨rfl, rfl⟩) fun vl s2 hz => ?_)
  obtain ⟨l, H2, I2, pl, el, e2⟩ := hz
  subst el e2
  refine thn (po_none.run pins s2 σ H2 (fun o H3 => o = none ∧ H3 = H2) I2 ⟨rfl, rfl⟩) fun vu s3 hz => ?_
  obtain ⟨u, H3, I3, pu, eu, e3⟩ := hz
  subst eu e3
  refine thn (hst.run pins s3 σ H3 (fun o H4 => o = some (-1) ∧ H4 = H3) I3 ⟨1, rfl, -1, rfl, rfl, rfl⟩) fun vs s4 hz => ?_
  obtain ⟨o, H4, I4, ps, eo, e4⟩ := hz
  subst eo e4
  cases pl
  cases pu
  have I5 : Inv X pins σ H4 { s4 with heap := s4.heap.push { cls := .type "slice", data := .fields #[.none, .none, vs] } } := I4.kept (t' := s4.toks) fun b ob q => Heap.get?_push_of_some _ q
  obtain ⟨its, r, ht, hz⟩ := I5.tuple hx
  have hlen := r.length
  show wpAny (model X.prog X.w) X.A (subscriptTail e (.Slice none none (some (.UnaryOp .USub (.Constant (.int 1) k p1) p2)) p3) (.ref a) (.ref s4.heap.objs.size)) (EP X pins σ Q) X.xe
    { s4 with heap := s4.heap.push { cls := .type "slice", data := .fields #[.none, .none, vs] } }
  refine tail_any (ops := [.ref a, .ref s4.heap.objs.size]) ht.typeIs slot_tuple_getitem.lookup ?_ (by with_unfolding_all rfl)
  refine getItem_tuple_back ht (Heap.IsSliceOf.new _ .none .none vs) ps ?_ (by rw [List.size_toArray]; omega)
  refine ⟨.ref _, _, I5.laid (t' := s4.toks) (o := .tup xs.reverse) (fun b ob q => Heap.get?_push_of_some _ q) (Nat.le_refl _) ?_, rfl, q _ (I5.hok.fresh (Nat.le_refl _))⟩
  exact ⟨by rw [List.length_reverse]; exact hz, its.reverse, r.reverse, IsTup.new _ _⟩
end

/-! ### enumerate over a tuple -/
theorem enum_new1 {v : Value} {o : Obj} {G : Heap → Prop} (B : Begins v o G) :
    Meets (Builtin.«enumerate.__new__» ⟨[.type "enumerate", v], []⟩) (fun _ R s => G s.heap ∧
      R (.ok (.ret (.ref (s.heap.push o).objs.size))) { s with heap := (s.heap.push o).push { cls := .type "enumerate", data := .fields #[.none, .bool false, .ref s.heap.objs.size, rawInt 0, .none, .none] } }) :=
  .of_wp fun prog w A R s h => by
    obtain ⟨hp, g, d, tk, os⟩ := s
    obtain ⟨h1, h2⟩ := h
    have hsub := sub_enumerate
    have it : ∀ {A' : Around} {E : Value → Shared → Prop} {Q : Value → Shared → Prop}, Q (.ref hp.objs.size) ⟨hp.push o, g, d, tk, os⟩ → wpAny (model prog w) A' (pyIter v) Q E ⟨hp, g, d, tk, os⟩ :=
      fun q => B.iter prog w _ _ ⟨hp, g, d, tk, os⟩ _ h1 q
    wp_walk using it
    refine wpAny_stack_any fun st => wpAny_pure ?_
    split
    · rename_i c _ _ _ _ _
      cases (c == Value.type "enumerate") <;> (wp_walk using it; exact ⟨_, rfl, h2⟩)
    · wp_walk using it
      exact ⟨_, rfl, h2⟩
section
variable {prog : Program} {w : World} {A : Around} {E : Value → Shared → Prop} {s : Shared}
theorem call_enum1 {v : Value} {o : Obj} {G : Heap → Prop} {Q : Value → Shared → Prop} (B : Begins v o G) (h1 : G s.heap)
    (h : ∀ h', IsEnum h' (s.heap.objs.size + 1) s.heap.objs.size 0 .none → h'.get? s.heap.objs.size = some o → h'.objs.size = s.heap.objs.size + 2 →
      (∀ b o, s.heap.get? b = some o → h'.get? b = some o) → Q (.ref (s.heap.objs.size + 1)) { s with heap := h' }) :
    wpAny (model prog w) A (call (.type "enumerate") [v]) Q E s := by
  refine callType_new F.called_enumerate (by decide) (F.typeCall_enumerate_1 _) (F.newCall_enumerate_1 _) (fun obj => F.args_object_init_2 obj _) F.entry_enumerate_new (enum_new1 B) ⟨h1, ?_⟩
  have hz : (s.heap.push o).objs.size = s.heap.objs.size + 1 := Heap.size_push ..
  rw [hz]
  have he : IsEnum ((s.heap.push o).push { cls := .type "enumerate", data := .fields #[.none, .bool false, .ref s.heap.objs.size, rawInt 0, .none, .none] }) (s.heap.objs.size + 1) s.heap.objs.size 0 .none := by
    have e := Heap.get?_push_size (s.heap.push o) (o := { cls := .type "enumerate", data := .fields #[.none, .bool false, .ref s.heap.objs.size, rawInt 0, .none, .none] }) rfl
    rw [hz] at e
    exact e
  exact ⟨⟨_, he, rfl⟩, h _ he (Heap.get?_push_of_some _ (Heap.get?_push_size _ B.free)) (by rw [Heap.size_push, hz]) fun b o x => Heap.get?_push_of_some _ (Heap.get?_push_of_some _ x)⟩
end
/-- the tuple at a, each item in a new pair with its number -/
def IteT (K : PySem.W.Frag) (a : Addr) : It :=
  ⟨fun i H => ∃ (xs : List V) (x : V), SqT K H a xs ∧ xs[i]? = some x, fun i H v H' => ∃ T x, v = .ref T ∧ H T = Option.none ∧ H' = upd H T (.tup [.int (i : Nat), x]) ∧ ∀ xs, SqT K H a xs → xs[i]? = some x,
    fun i H => ∃ xs : List V, SqT K H a xs ∧ xs.length ≤ i⟩
theorem turn_enumT {P : Program} {w : World} {K : PySem.W.Frag} {elts : List Expr} {kk : Nat} {tpos : Pos} (a e it : Addr) :
    Turn P w K (.Tuple elts kk tpos) (IteT K a) [e, it] e (fun i h => (∃ old, IsEnum h e it ((i : Nat) : Int) old) ∧ h.IsTupleIter it a i ∧ e ≠ it ∧ a ≠ it ∧ a ≠ e) where
  mem := by simp
  obj := fun i h st b hb => by
    obtain ⟨⟨old, he⟩, ⟨o, ho, hc, hd⟩, _⟩ := st
    rcases (show b = e ∨ b = it by simpa using hb) with z | z
    · rw [z]; exact ⟨_, he, fun v q => nomatch q⟩
    · rw [z]; exact ⟨o, ho, fun v q => by rw [hd] at q; cases q⟩
  keep := fun i h h' st k => let ⟨⟨old, he⟩, hi, hne⟩ := st; ⟨⟨old, k e (by simp) _ he⟩, hi.at fun o q => k it (by simp) o q, hne⟩
  item := by
    intro X hP hw hK hc i pins s σ H E I hf st hg
    subst hP hw hK
    obtain ⟨⟨old, he⟩, hit, hne, hai, hae⟩ := st
    obtain ⟨xs, x, hq, hx⟩ := hg
    obtain ⟨its, rv, p, hz⟩ := I.tuple hq
    obtain ⟨u, hu, ru⟩ := rv.get hx
    have hel : e < s.heap.objs.size := Heap.lt_size he
    have hil : it < s.heap.objs.size := by obtain ⟨_, q, _⟩ := hit; exact Heap.lt_size q
    have hlt : i < its.toArray.size := by
      rw [List.size_toArray]
      exact (List.getElem?_eq_some_iff.mp hu).1
    refine wpAny_pyNext_enum_itemD (Draws.tuple (prog := X.prog) (w := X.w) (A := X.A.in1) (I.ok.hd hc) it a hai its.toArray) he ⟨hit, p⟩ hlt hne (by simp [hne, Ne.symm hae]) fun y h' tk hy ho hst hT hsz hk => ?_
    have ey : y = u := by
      have q : its[i]? = some y := by simpa using hy
      rw [hu] at q
      exact (Option.some.inj q).symm
    subst ey
    refine ⟨_, rfl, wpAny_letOwnedTupleGo_enum (s := { s with heap := h', toks := tk + 1 }) ho fun h'' he' sb => ?_⟩
    have hT2 : h''.get? s.heap.objs.size = some { cls := .type "tuple", data := .seq #[.int i tk, y] } := (sb.2 _ (Nat.ne_of_gt hel)).trans hT
    have new : ObjOk X.prog X.w (upd H s.heap.objs.size (.tup [.int (i : Nat), x])) h'' s.heap.objs.size (.tup [.int (i : Nat), x]) :=
      ⟨by show 2 ≤ sizeLine; decide, [.int i tk, y], .cons ⟨_, rfl⟩ (.cons ru .nil), ⟨_, hT2, rfl, _, rfl⟩⟩
    have I1 : Inv X pins σ (upd H s.heap.objs.size (.tup [.int (i : Nat), x])) { s with heap := h'', toks := tk + 1 } :=
      I.turnedNew (ch := [e, it]) (fun b ob hb q => (sb.2 b (fun z => hb (by simp [z]))).trans (hk b ob (fun z => hb (by simp [z])) (fun z => hb (by simp [z])) q)) hf (Nat.le_refl _) new
    refine ⟨.ref s.heap.objs.size, _, I1, rfl, ⟨_, x, rfl, I.hok.fresh (Nat.le_refl _), rfl, fun ys hy => by rw [I.tuple_inj hy hq]; exact hx⟩, ⟨⟨y, ?_⟩, hst.1.at fun o q => (sb.2 it (Ne.symm hne)).trans q, hne, hai, hae⟩, fun b hb => ?_⟩
    · have e1 : ((i + 1 : Nat) : Int) = (i : Int) + 1 := by omega
      rw [e1]; exact he'
    · have hb' : b < s.heap.objs.size := by
        rcases (show b = e ∨ b = it by simpa using hb) with z | z
        · rw [z]; exact hel
        · rw [z]; exact hil
      rw [upd_ne (Nat.ne_of_lt hb')]
      exact (hf b hb).1
  done := by
    intro X hP hw hK hc i pins s σ H E I hf st hg
    subst hP hw hK
    obtain ⟨⟨old, he⟩, hit, hne, hai, hae⟩ := st
    obtain ⟨xs, hq, hx⟩ := hg
    obtain ⟨its, rv, p, hz⟩ := I.tuple hq
    obtain ⟨f0, f1, f2, f3, f4, f5⟩ := hf it (by simp)
    have hl := rv.length
    have D : Draws X.prog X.w X.A.in1 it [it, a] i (fun _ _ => False) (fun j h => j = i ∧ h.IsTupleIter it a i ∧ h.IsTuple a its.toArray) :=
      { live := fun _ _ st => let ⟨o, ho, _⟩ := st.2.1; ⟨o, ho⟩
        frame := fun _ _ _ st hk => ⟨st.1, st.2.1.at fun o e => hk it (by simp) o e, st.2.2.at fun o e => hk a (by simp) o e⟩
        item := fun j s Q E hj st => absurd hj (by rw [st.1]; exact Nat.lt_irrefl _)
        done := fun s Q E st hE => wpAny_nextOf_tuple_end (I.ok.hd hc) st.2.1 st.2.2 (by simp; omega) hE }
    exact wpAny_pyNext_enum_endD D he ⟨rfl, hit, p⟩ fun h' eb => ⟨rfl, I.turned (t' := s.toks) (fun b o hb q => eb b o hb q) f0 f1 f3 f4 f5⟩
  self := fun A i s Q E st h => let ⟨⟨_, he⟩, _⟩ := st; wpAny_pyIter_enum he h
def iEnumT (K : PySem.W.Frag) (ta : TA) : TI := fun σ H R => ta σ H fun vs H1 => ∃ a xs, vs = [.ref a] ∧ SqT K H1 a xs ∧ R (IteT K a) H1
theorem pi_enumT {X : Cx} {e : Expr} {ta : TA} {p pos tpos : Pos} {elts : List Expr} {kk : Nat} (hg : Gl X "enumerate") (hm : X.mg "enumerate" = none) (ha : PA X [e] ta) (hs : starEach [e] X.env = [(false, eval e X.env)] := by rfl) :
    PI X (.Tuple elts kk tpos) (.Call (.Name "enumerate" p) [e] [] pos) (iEnumT X.K ta) := by
  refine ⟨fun pins s σ H R I h => ?_⟩
  refine Call_ (ld_blt I hg hm boot_enumerate (PyProof.Rows.callWith_type1 (thn (ha.run pos pins s σ H _ I h) fun us s1 hz => ?_) hs rfl))
  obtain ⟨vs, H1, I1, r1, a, xs, ex, hq, q⟩ := hz
  subst ex
  cases r1 with
  | cons r rr =>
    cases rr
    cases r
    obtain ⟨its, rv, p', hz⟩ := I1.tuple hq
    refine call_enum1 (begins_tuple a its.toArray) p' fun h' he hit hsz hk => wpAny_pyIter_enum he ?_
    have hal : a < s1.heap.objs.size := p'.lt
    refine ⟨s1.heap.objs.size + 1, [s1.heap.objs.size + 1, s1.heap.objs.size], _, _, H1, rfl, I1.kept (t' := s1.toks) hk, turn_enumT a (s1.heap.objs.size + 1) s1.heap.objs.size,
      ⟨⟨.none, he⟩, ⟨_, hit, rfl, rfl⟩, Nat.succ_ne_self _, Nat.ne_of_lt hal, Nat.ne_of_lt (Nat.lt_succ_of_lt hal)⟩, fun b hb => ?_, q⟩
    have hle : s1.heap.objs.size ≤ b := by
      rcases (show b = s1.heap.objs.size + 1 ∨ b = s1.heap.objs.size by simpa using hb) with z | z
      · rw [z]; exact Nat.le_add_right _ _
      · rw [z]; exact Nat.le_refl _
    exact I1.fpOk hle (I1.hok.fresh hle)
theorem walk_enumT {K : PySem.W.Frag} {a : Addr} {xs : List V} : Walk (IteT K a) xs.length (fun H => SqT K H a xs) (YPair (fun i => some (.int (i : Nat))) (fun i => xs[i]?)) := by
  refine ⟨fun i _ hi q => ⟨xs, xs[i], q, by simp [hi]⟩, fun _ q => ⟨xs, q, Nat.le_refl _⟩, fun i H v H' _ q y => ?_⟩
  obtain ⟨T, x, h1, h2, h3, h4⟩ := y
  exact ⟨T, .int (i : Nat), x, h1, h2, h3, rfl, h4 xs q⟩
theorem walk_zipT {K : PySem.W.Frag} {a b : Addr} {xs ys : List V} {n : Nat} (hn : n = min xs.length ys.length) : Walk (RZ.ItzT K a b) n (fun H => SqT K H a xs ∧ SqT K H b ys) (YPair (fun i => xs[i]?) (fun i => ys[i]?)) := by
  subst hn
  refine ⟨fun i _ hi q => ?_, fun _ q => ⟨xs, ys, q.1, q.2, by omega⟩, fun i H v H' _ q y => ?_⟩
  · have h1 : i < xs.length := by omega
    have h2 : i < ys.length := by omega
    exact ⟨xs, ys, xs[i], ys[i], q.1, q.2, by simp [h1], by simp [h2]⟩
  · obtain ⟨T, x, z, h1, h2, h3, h4, h5⟩ := y
    exact ⟨T, x, z, h1, h2, h3, h4 xs q.1, h5 ys q.2⟩

/-! ### sorted(d.keys()) of a dict of int keys -/
section
variable {X : Cx}
/-- the view r of the keys of the dict at d -/
def ViewO (r d : Addr) : HO := .ext fun h => PySem.W.KdlKeysView h r d
def tKeys (td : TE) : TE := fun σ H Q => td σ H fun x H1 => ∃ d, x = .ref d ∧ (∃ kvs, H1 d = some (.dK kvs)) ∧ ∀ r, H1 r = Option.none → Q (.ref r) (upd H1 r (ViewO r d))
theorem pe_keys {e : Expr} {td : TE} {apos cpos : Pos} (he : PE X e td) (hbase : attributeBase e "keys" X.env (eval e X.env) = eval e X.env := by rfl) (hline : (apos.endLine == cpos.line) = true := by rfl) :
    PE X (.Call (.Attribute e "keys" apos) [] [] cpos) (tKeys td) := by
  refine ⟨fun pins s σ H Q I h => ?_⟩
  refine wpAny_Call_method (T := "dict") (id := "dict.keys") hbase rfl hline F.plainAttrs_dict F.slot_dict_keys F.type_dict_keys (thn (he.run pins s σ H _ I h) fun u s1 hz => ?_)
  obtain ⟨x, H1, I1, rx, d, ex, ⟨kvs, hd⟩, q⟩ := hz
  subst ex
  obtain rfl : u = Value.ref d := rx
  obtain ⟨z, lo, vs, rel, dd⟩ := dk_of I1.hok hd
  refine ⟨dd.typeIs, dd.mapOf.noDict, ?_⟩
  show wpAny _ _ (callWith cpos (.builtin "dict.keys") [.ref d] [] []) _ X.xe s1
  have fin : EP X pins σ Q (.ref s1.heap.objs.size) { s1 with heap := s1.heap.push { cls := .type "dict_keys", data := .fields #[.ref d] } } := by
    refine ⟨.ref s1.heap.objs.size, upd H1 s1.heap.objs.size (ViewO s1.heap.objs.size d), I1.laid (t' := s1.toks) (fun b u e => Heap.get?_push_of_some _ e) (Nat.le_refl _) ?_, rfl, q _ (I1.hok.fresh (Nat.le_refl _))⟩
    refine ⟨⟨_, Heap.get?_push_size _ rfl, rfl, rfl⟩, ⟨_, Heap.get?_push_size _ rfl⟩, fun h1 h2 a b => ?_⟩
    obtain ⟨o, ho, c⟩ := a
    exact ⟨o, b o ho, c⟩
  exact method_meetsIn F.slot_dict_keys F.entry_dict_keys rfl (PySem.evalArgs_none ⟨rfl, dd.typeIs, F.args_dict_keys_1 _, _, PySem.W.kdl_meets_keys (mixKind X.prog X.w) d lo, ⟨vs, dd⟩, fin⟩)
theorem call_sortedK (hcalm : X.calm = true) : CallR X (.builtin "sorted") (fun xs H Q => ∃ (r d : Addr) (kvs : List (Key × V)) (ks : List Int), xs = [.ref r] ∧ H r = some (ViewO r d) ∧ H d = some (.dK kvs) ∧ kvs.map (·.1) = ks.map Sum.inl ∧ ks.length < 64 ∧
    ∀ (ys : List Int) (p : Addr), ys.Perm ks → ys.Pairwise (· ≤ ·) → H p = Option.none → Q (.ref p) (upd H p (.lst (ys.map V.int)))) := by
  intro pins s σ H xs us Q I rr q
  obtain ⟨r, d, kvs, ks, ex, hr, hd, hks, h64, q⟩ := q
  subst ex
  obtain ⟨u, eu, rx⟩ := vals1 rr
  subst eu
  cases rx
  have hv : PySem.W.KdlKeysView s.heap r d := (I.hok r _ hr).1
  obtain ⟨z, lo, vs, rel, dd⟩ := dk_of I.hok hd
  obtain ⟨ep, hat⟩ := dd.dictAt
  have hkeys : vs.map (·.1) = ks.map Sum.inl := rel.keys.symm.trans hks
  have hl : vs.length = ks.length := by simpa using congrArg List.length hkeys
  have h16 : vs.length ≤ sizeLine := by rw [hl, sizeLine_eq]; omega
  refine Calls.call_function_entry PyProof.Rows.kind_sorted PyProof.Rows.plain_sorted PyProof.Rows.entry_sorted (PyProof.Rows.args_sorted1 _) ?_
  unfold Builtin.«sorted»
  refine wpAny_bind (m := checkCount "sorted" 1 1 _) (wpAny_pure ?_)
  refine wpAny_bind (PySem.W.kdu_collect (A := X.A.in1) (PySem.W.kdl_keys (knd := mixKind X.prog X.w) (r := r) (d := d) (kvs := vs) (ep := ep)) (I.ok.hd hcalm) ⟨hv, hat⟩ h16 fun h' tk acc hk hacc => ?_)
  have hal : acc.toList.length = ks.length := by rw [Array.length_toList, hacc.1, hl]
  have hS : IntsAre acc.toList ks := ints_each hal fun j v e => by
    obtain ⟨k, x, e1, e2⟩ := hacc.2 j v (by rw [← Array.getElem?_toList]; exact e)
    have e3 : (vs.map (·.1))[j]? = some k := by rw [List.getElem?_map, e1]; rfl
    rw [hkeys, List.getElem?_map] at e3
    obtain ⟨y, ey, e4⟩ := Option.map_eq_some_iff.mp e3
    subst e4
    rcases keyIs_shape (show keyIs (Sum.inl y) v = true from e2) with ⟨i, t, ek, ev⟩ | ⟨_, t, ek, ev⟩
    · cases ek
      exact ⟨y, t, ey, ev⟩
    · cases ek
  have I1 : Inv X pins σ H { s with heap := h', toks := tk } := I.kept hk
  refine wpAny_bind (wpAny_newList ?_ (by rw [hal, sizeLine_eq]; omega))
  have hoL : (h'.push (seqObj "list" acc.toList.toArray 0)).get? h'.objs.size = some (seqObj "list" acc.toList.toArray 0) := Heap.get?_push_size _ rfl
  show wpAny _ _ _ _ _ { s with heap := h'.push (seqObj "list" acc.toList.toArray 0), toks := tk }
  refine wpAny_bind (wpAny_holding (wpAny_call_entry PyProof.Rows.slot_list_sort ⟨_, hoL, rfl⟩ PyProof.Rows.entry_list_sort
    (PyProof.Rows.list_sort_tree (s := { s with heap := h'.push (seqObj "list" acc.toList.toArray 0), toks := tk }) hoL hS (by rw [hal]; exact h64) fun out ys g1 g2 g3 => ⟨_, rfl, ?_⟩) (PyProof.Rows.args_list_sort _)))
  obtain ⟨e', he'⟩ := PyProof.Rows.sortedHeap_at (vs := acc.toList) (out := out) hoL
  have hlen : (ys.map V.int).length ≤ sizeLine := by
    rw [List.length_map, g2.length_eq]
    exact Nat.le_trans (Nat.le_of_lt h64) (by decide)
  refine wpAny_pure ⟨_, rfl, .ref h'.objs.size, upd H h'.objs.size (.lst (ys.map V.int)), I1.laid (t' := tk) (fun b u e => ?_) (Nat.le_refl _)
    (show ObjOk X.prog X.w _ _ _ (.lst (ys.map V.int)) from ⟨hlen, out.toList, e', vals_of_ints g1, by rw [Array.toArray_toList]; exact he'⟩), rfl, q ys _ g2 g3 (I1.hok.fresh (Nat.le_refl _))⟩
  have hb : b < h'.objs.size := Heap.lt_size e
  rw [PyProof.Rows.sortedHeap_old (Nat.ne_of_lt hb) (by rw [size_push']; exact Nat.lt_succ_of_lt hb)]
  exact Heap.get?_push_of_some _ e
end
end Cm

/-! a dict of things by births -/
namespace Cm
open PySem L2
/-- a thing: a word, then data without lists -/
def windD (b : Int) : PyData := .tuple [.str "wind", .int (1000 + b), .int (2000 + b)]
def wordD : PyData → Str
  | .tuple (.str x :: _) => x
  | _ => ""
structure Th (b : Int) (d : PyData) : Prop where
  ex : ∃ (wd : Str) (r : List PyData), d = .tuple (.str wd :: r)
  fl : flatD d = true
  ok : okD d = true
  dp : d.depth ≤ 8
  wt : d.weight ≤ 4000
  wn : wordD d = "wind" → d = windD b
/-- the dict at d holds es -/
structure ThAt (K : PySem.W.Frag) (H : Hp) (d : Addr) (es : List (Int × PyData)) (kvs : List (Key × V)) : Prop where
  at_ : H d = some (.dK kvs)
  ks : kvs.map (·.1) = es.map (fun e => Sum.inl e.1)
  vs : DpAll K H (kvs.map (·.2)) (es.map (·.2))
  th : ∀ e ∈ es, Th e.1 e.2
def thg (es : List (Int × PyData)) (b : Int) : PyData := ((es.find? fun e => decide (e.1 = b)).map (·.2)).getD .none
def word (es : List (Int × PyData)) (b : Int) : Str := wordD (thg es b)
theorem th_find {K : PySem.W.Frag} {H : Hp} (b : Int) : ∀ (es : List (Int × PyData)) (kvs : List (Key × V)), kvs.map (·.1) = es.map (fun e => (Sum.inl e.1 : Key)) → DpAll K H (kvs.map (·.2)) (es.map (·.2)) →
    b ∈ es.map (·.1) → ∃ v, valV kvs (Sum.inl b) = some v ∧ Dp K H v (thg es b) ∧ (b, thg es b) ∈ es
  | [], _, _, _, m => by simp at m
  | e :: es, kvs, hk, hv, m => by
    cases kvs with
    | nil => simp at hk
    | cons a kvs =>
      simp only [List.map_cons, List.cons.injEq] at hk
      cases hv with
      | cons h1 h2 =>
        by_cases q : e.1 = b
        · refine ⟨a.2, ?_, ?_, ?_⟩
          · unfold valV
            rw [List.find?_cons_of_pos (by rw [hk.1, q]; simp)]
            rfl
          · have : thg (e :: es) b = e.2 := by
              unfold thg
              rw [List.find?_cons_of_pos (by simp [q])]
              rfl
            rw [this]
            exact h1
          · have : thg (e :: es) b = e.2 := by
              unfold thg
              rw [List.find?_cons_of_pos (by simp [q])]
              rfl
            rw [this, ← q]
            exact List.mem_cons_self
        · have m' : b ∈ es.map (·.1) := by
            simp only [List.map_cons, List.mem_cons] at m
            rcases m with m | m
            · exact absurd m.symm q
            · exact m
          obtain ⟨v, g1, g2, g3⟩ := th_find b es kvs hk.2 h2 m'
          have e2 : thg (e :: es) b = thg es b := by
            unfold thg
            rw [List.find?_cons_of_neg (by simpa using q)]
          refine ⟨v, ?_, by rw [e2]; exact g2, by rw [e2]; exact List.mem_cons_of_mem _ g3⟩
          unfold valV at g1 ⊢
          rw [List.find?_cons_of_neg (by rw [hk.1]; simpa using q)]
          exact g1
theorem ThAt.get {K : PySem.W.Frag} {H : Hp} {d : Addr} {es : List (Int × PyData)} {kvs : List (Key × V)} (x : ThAt K H d es kvs) {b : Int} (m : b ∈ es.map (·.1)) :
    ∃ (p : Addr) (its : List V), DGet H d (.int b) (some (.ref p)) ∧ SqT K H p its ∧ atI its 0 = some (.str (word es b)) ∧ Dp K H (.ref p) (thg es b) ∧ Th b (thg es b) := by
  obtain ⟨v, h1, h2, h3⟩ := th_find b es kvs x.ks x.vs m
  have t : Th b (thg es b) := x.th _ h3
  obtain ⟨wd, r, ed⟩ := t.ex
  have h2' := h2
  have e3 : word es b = wd := by
    unfold word
    rw [ed]
    rfl
  rw [ed] at h2'
  cases h2' with
  | @tup a its ds hs ha =>
    refine ⟨a, its, ?_, hs, ?_, by rw [ed]; exact .tup hs ha, t⟩
    · have q := DGet.k (k := Sum.inl b) x.at_
      rw [h1] at q
      exact q
    · rw [e3]
      cases ha with
      | cons q1 q2 =>
        cases q1
        exact atI_nat (j := 0) rfl
theorem putK_end {kvs : List (Key × V)} {k : Key} {v : V} (h : ∀ p ∈ kvs, p.1 ≠ k) : putK kvs k v = kvs ++ [(k, v)] := by
  unfold putK
  rw [if_neg]
  intro q
  obtain ⟨p, hp, e⟩ := List.any_eq_true.mp q
  exact h p hp (of_decide_eq_true e)
theorem decS {x y : Str} : decide (V.str x = V.str y) = decide (x = y) := by
  by_cases q : x = y
  · rw [q]; simp
  · rw [decide_eq_false q, decide_eq_false (fun z => q (V.str.inj z))]
theorem ThAt.same {K : PySem.W.Frag} {H H' : Hp} {d : Addr} {es : List (Int × PyData)} {kvs : List (Key × V)} (x : ThAt K H d es kvs) (s : Same H H') : ThAt K H' d es kvs :=
  ⟨s _ _ x.at_, x.ks, dps_same s _ _ x.vs, x.th⟩
theorem flatDs_of : ∀ ds : List PyData, (∀ d ∈ ds, flatD d = true) → flatDs ds = true
  | [], _ => rfl
  | d :: ds, h => by simp [flatDs, h d List.mem_cons_self, flatDs_of ds fun x hx => h x (List.mem_cons_of_mem _ hx)]
theorem ThAt.fl {K : PySem.W.Frag} {H : Hp} {d : Addr} {es : List (Int × PyData)} {kvs : List (Key × V)} (x : ThAt K H d es kvs) : flatDs (es.map (·.2)) = true :=
  flatDs_of _ fun z hz => by
    obtain ⟨e, he, rfl⟩ := List.mem_map.mp hz
    exact (x.th e he).fl
theorem ThAt.kp {M : Addr → Prop} {K : PySem.W.Frag} {H H' : Hp} {d : Addr} {es : List (Int × PyData)} {kvs : List (Key × V)} (x : ThAt K H d es kvs) (k : Kp M H H') (n : ¬ M d) : ThAt K H' d es kvs :=
  ⟨k.st _ _ n x.at_, x.ks, dps_keep (fun _ _ h => k.tup h) _ _ x.fl x.vs, x.th⟩
theorem wt_int {i : Int} (h : i.natAbs < 10 ^ 12) : PyData.weight (.int i) ≤ 64 := by
  simp only [PyData.weight]
  split
  · omega
  · rename_i q
    have q' : i.natAbs ≠ 0 := by
      intro z
      apply q
      simp
      omega
    have := (Nat.log2_lt q').mpr (show i.natAbs < 2 ^ 63 from Nat.lt_of_lt_of_le h (by decide))
    omega
theorem ThAt.snoc {K : PySem.W.Frag} {H : Hp} {d : Addr} {es : List (Int × PyData)} {kvs : List (Key × V)} (x : ThAt K H d es kvs) {b : Int} {v : V} {t : PyData} (n : b ∉ es.map (·.1)) (hv : Dp K H v t) (ht : Th b t) :
    ThAt K (upd H d (.dK (putK kvs (Sum.inl b) v))) d (es ++ [(b, t)]) (putK kvs (Sum.inl b) v) := by
  have e1 : putK kvs (Sum.inl b) v = kvs ++ [(Sum.inl b, v)] := putK_end fun p hp q => n (by
    have : p.1 ∈ kvs.map (·.1) := List.mem_map.mpr ⟨p, hp, rfl⟩
    rw [x.ks] at this
    obtain ⟨e, he, e2⟩ := List.mem_map.mp this
    rw [q] at e2
    exact List.mem_map.mpr ⟨e, he, Sum.inl.inj e2⟩)
  have keep : ∀ a xs, SqT K H a xs → SqT K (upd H d (.dK (putK kvs (Sum.inl b) v))) a xs := fun a xs h => by
    rcases h with (h | ⟨o, h⟩) | h
    · exact .inl (.inl (by rw [upd_ne (ne_of h x.at_ (by intro z; cases z))]; exact h))
    · exact .inl (.inr ⟨o, by rw [upd_ne (ne_of h x.at_ (by intro z; cases z))]; exact h⟩)
    · exact .inr h
  refine ⟨upd_same, ?_, ?_, ?_⟩
  · rw [e1, List.map_append, List.map_append, x.ks]
    rfl
  · have h1 := dps_keep keep _ _ x.fl x.vs
    have h2 := dp_keep keep _ _ ht.fl hv
    rw [show (putK kvs (Sum.inl b) v).map (·.2) = kvs.map (·.2) ++ [v] by rw [e1, List.map_append]; rfl, List.map_append]
    exact DpAll.snoc h2 h1
  · intro e he
    rcases List.mem_append.mp he with he | he
    · exact x.th e he
    · cases List.mem_singleton.mp he
      exact ht
theorem Kp.mut {M : Addr → Prop} {H H' : Hp} {d : Addr} {o : HO} (k : Kp M H H') (hd : H d = Option.none) : Kp M H (upd H' d o) :=
  ⟨fun a u n e => by
    rw [upd_ne (ne_of_none e hd)]
    exact k.st a u n e, k.l1, fun a m => by
    have q : a ≠ d := fun q => k.m_of hd (q ▸ m)
    rw [upd_ne q]
    exact k.l2 a m⟩
theorem Hand.put {H : Hp} {h c d : Addr} {o : HO} (x : Hand H h c) (n : ∀ xs, H d ≠ some (.lst xs)) : Hand (upd H d o) h c := by
  obtain ⟨cells, i, b, t, e1, e2, q⟩ := x
  refine ⟨cells, i, b, t, ?_, ?_, q⟩
  · rw [upd_ne (fun z => n _ (z ▸ e1))]
    exact e1
  · rw [upd_ne (fun z => n _ (z ▸ e2))]
    exact e2
theorem Hand.puts {H : Hp} {h c d : Addr} {o : HO} (x : Hand H h c) (n1 : d ≠ h) (n2 : d ≠ c) : Hand (upd H d o) h c := by
  obtain ⟨cells, i, b, t, e1, e2, q⟩ := x
  exact ⟨cells, i, b, t, by rw [upd_ne (Ne.symm n1)]; exact e1, by rw [upd_ne (Ne.symm n2)]; exact e2, q⟩
theorem Hand.there {H : Hp} {h c d : Addr} (x : Hand H h c) (n : H d = Option.none) : d ≠ h ∧ d ≠ c := by
  obtain ⟨cells, i, b, t, e1, e2, q⟩ := x
  exact ⟨(ne_of_none e1 n).symm, (ne_of_none e2 n).symm⟩
theorem Hand.ne {H : Hp} {h c d : Addr} (x : Hand H h c) (n : ∀ xs, H d ≠ some (.lst xs)) : d ≠ h := fun z => by
  obtain ⟨xs, e⟩ := x.lst
  exact n xs (z ▸ e)
/-- 1 .. n -/
def births (n : Nat) : List Int := (List.range n).map fun (i : Nat) => (i : Int) + 1
theorem births_succ (n : Nat) : births (n + 1) = births n ++ [(n : Int) + 1] := by
  unfold births
  rw [List.range_succ, List.map_append]
  rfl
theorem births_mem {n : Nat} {b : Int} : b ∈ births n ↔ 1 ≤ b ∧ b ≤ n := by
  unfold births
  rw [List.mem_map]
  constructor
  · rintro ⟨i, hi, rfl⟩
    have := List.mem_range.mp hi
    omega
  · intro q
    exact ⟨(b - 1).toNat, List.mem_range.mpr (by omega), by omega⟩
/-- a new thing is put at the next birth -/
theorem things_put {K : PySem.W.Frag} {H H3 : Hp} {h c d : Addr} {es : List (Int × PyData)} {kvs : List (Key × V)} {i : Nat} {v : V} {t : PyData} (kh : Kh h H H3) (hh : Hand H3 h c) (x : ThAt K H3 d es kvs) (hd : H d = Option.none)
    (hk : es.map (·.1) = births i) (hi : i < 1000) (hv : Dp K H3 v t) (ht : Th (1 + i) t) :
    ∃ H4 es' kvs', DPut H3 d (.int (1 + (i : Nat))) v H4 ∧ Kh h H H4 ∧ Hand H4 h c ∧ ThAt K H4 d es' kvs' ∧ es'.map (·.1) = births (i + 1) := by
  have hb : (1 : Int) + i ∉ es.map (·.1) := by
    rw [hk, births_mem]
    omega
  have hl : kvs.length < sizeLine := by
    have e := congrArg List.length x.ks
    rw [List.length_map, List.length_map] at e
    have e2 := congrArg List.length hk
    rw [List.length_map] at e2
    have e3 : (births i).length = i := by unfold births; rw [List.length_map, List.length_range]
    rw [e, e2, e3]
    exact Nat.lt_trans hi (by decide)
  refine ⟨_, _, _, DPut.k (k := Sum.inl (1 + (i : Int))) x.at_ hl, kh.mut hd, hh.put (fun xs e => by rw [x.at_] at e; cases e), x.snoc hb hv ht, ?_⟩
  rw [List.map_append, hk, births_succ]
  show births i ++ [1 + (i : Int)] = _
  rw [show (1 : Int) + i = i + 1 by omega]
theorem births_len (n : Nat) : (births n).length = n := by
  unfold births
  rw [List.length_map, List.length_range]
end Cm

/-! comprehensions over data -/
namespace Cm
open PySem L2
theorem sqt_put {K : PySem.W.Frag} {H : Hp} {D a : Addr} {xs ys zs : List V} (h : H D = some (.lst ys)) (q : SqT K H a xs) : SqT K (upd H D (.lst zs)) a xs := by
  rcases q with (q | ⟨o, q⟩) | q
  · exact .inl (.inl (by rw [upd_ne (ne_of q h (by intro z; cases z))]; exact q))
  · exact .inl (.inr ⟨o, by rw [upd_ne (ne_of q h (by intro z; cases z))]; exact q⟩)
  · exact .inr q
theorem same_put {H H' : Hp} {D : Addr} {o : HO} (s : Same H H') (h : H D = Option.none) : Same H (upd H' D o) := fun b u e => by
  rw [upd_ne (ne_of_none e h)]
  exact s b u e
theorem sqt_same {K : PySem.W.Frag} {H H' : Hp} {a : Addr} {xs : List V} (s : Same H H') (h : SqT K H a xs) : SqT K H' a xs := by
  rcases h with (h | ⟨o, h⟩) | h
  · exact .inl (.inl (s _ _ h))
  · exact .inl (.inr ⟨o, s _ _ h⟩)
  · exact .inr h
theorem flatDs_all {ds : List PyData} (h : flatDs ds = true) : ∀ d ∈ ds, flatD d = true := by
  induction ds with
  | nil => intro d hd; cases hd
  | cons a r ih =>
    have h' : flatD a = true ∧ flatDs r = true := by simpa [flatDs] using h
    intro d hd
    rcases List.mem_cons.mp hd with rfl | hd
    · exact h'.1
    · exact ih h'.2 d hd
theorem flatDs_app {ds es : List PyData} (h1 : flatDs ds = true) (h2 : flatDs es = true) : flatDs (ds ++ es) = true :=
  flatDs_of _ fun d hd => by
    rcases List.mem_append.mp hd with q | q
    · exact flatDs_all h1 d q
    · exact flatDs_all h2 d q
theorem walk_upto {n : Nat} : Walk (Itr 0 n) n (fun _ => True) (YFn fun i => .int ((i : Nat) : Int)) :=
  ⟨fun _ _ hi _ => hi, fun _ _ => Nat.le_refl _, fun i H x H' _ _ y => ⟨y.1, by
    have := y.2
    rw [Int.zero_add] at this
    exact this⟩⟩
/-! ### the same rules where the context is a comprehension's block: K is said -/
section
variable {X : Cx} {K : PySem.W.Frag}
theorem kx_tup (h : X.K = K := by rfl) : IxR X (rIxT K) := by subst h; exact ix_tup
theorem kx_list (h : X.K = K := by rfl) : IxR X (rIxL K) := by subst h; exact ix_list
theorem kx_seq (h : X.K = K := by rfl) : IxR X (rIx K) := by subst h; exact ix_seq
theorem ko_eqD (hu : X.A.units + 64 < cLine) (h : X.K = K := by rfl) : OpR X (compareOp .Eq) (rEqD K) := by subst h; exact op_eqD hu
theorem ko_neD (hu : X.A.units + 64 < cLine) (h : X.K = K := by rfl) : OpR X (compareOp .NotEq) (rNeD K) := by subst h; exact op_neD hu
theorem ko_in (h : X.K = K := by rfl) : OpR X (compareOp .In) (rIn K false) := by subst h; exact op_in_seq
theorem ko_notIn (h : X.K = K := by rfl) : OpR X (compareOp .NotIn) (rIn K true) := by subst h; exact op_notIn_seq
theorem ko_catA (h : X.K = K := by rfl) : OpR X (binaryOp .Add) (rCatA K) := by subst h; exact op_catA
def rLen (K : PySem.W.Frag) : List V → Hp → VK → Prop := fun xs H Q => ∃ p ys, xs = [.ref p] ∧ (SqL K H p ys ∨ SqT K H p ys) ∧ Q (.int ys.length) H
theorem kc_len (h : X.K = K := by rfl) : CallR X (.builtin "len") (rLen K) := by subst h; exact call_len_seq
end
/-- a comprehension whose items are data without lists: R i is the i-th turn's, none if it is left out -/
theorem lc_data {K : PySem.W.Frag} {J : It} {n : Nat} {G : Hp → Prop} {Y : Nat → Hp → V → Hp → Prop} (wk : Walk J n G Y) {g : TG} {tt : TT} {te : TE} {vs : List Nat} {σ : L2.St} {H1 : Hp} {D : Addr} {Qd : Hp → Prop} (R : Nat → Option PyData)
    (hD : H1 D = Option.none) (hn : n ≤ 100000) (hG : ∀ H, Same H1 H → G H) (hfl : ∀ i < n, ∀ d, R i = some d → flatD d = true)
    (hs : ∀ i x H H', i < n → Same H1 H → Y i H x H' → ∀ (Q1 : VK) (Q0 : Hp → Prop), (∀ v H4 d, R i = some d → Same H H4 → Dp K H4 v d → Q1 v H4) → (∀ H3, R i = none → Same H H3 → Q0 H3) →
      g x (wipe σ vs) H' fun σ2 H2 => wipe σ2 vs = wipe σ vs ∧ tt σ2 H2 fun b H3 => if b = true then te σ2 H3 Q1 else Q0 H3)
    (hd : ∀ H acc, Same H1 H → H D = some (.lst acc) → DpAll K H acc ((List.range n).filterMap R) → Qd H) :
    ∃ W : Nat → Nat → Hp → Prop, (∃ m, W 0 m (upd H1 D (.lst []))) ∧ ∀ i m H, W i m H →
      (J.stop i H ∧ Qd H) ∨ (J.go i H ∧ ∃ Nx : Hp → Prop, (∀ H', Nx H' → ∃ m', m' < m ∧ W (i + 1) m' H') ∧ ∀ x H', J.yld i H x H' → g x (wipe σ vs) H' fun σ2 H2 => wipe σ2 vs = wipe σ vs ∧ tt σ2 H2 fun b H3 =>
        if b = true then te σ2 H3 fun y H4 => ∃ acc, H4 D = some (.lst acc) ∧ acc.length < sizeLine ∧ Nx (upd H4 D (.lst (acc ++ [y]))) else Nx H3) := by
  have fl : ∀ i ≤ n, flatDs ((List.range i).filterMap R) = true := fun i hi => flatDs_of _ fun d hd => by
    obtain ⟨j, hj, e⟩ := List.mem_filterMap.mp hd
    exact hfl j (by have := List.mem_range.mp hj; omega) d e
  refine lc_it wk (fun i H => ∃ acc, Same H1 H ∧ H D = some (.lst acc) ∧ DpAll K H acc ((List.range i).filterMap R) ∧ acc.length ≤ i) ⟨[], same_new hD, upd_same, .nil, Nat.le_refl _⟩ (fun i H _ z => ?_) ?_ ?_
  · obtain ⟨acc, s, _⟩ := z
    exact hG H s
  · rintro i x H H' hi ⟨acc, s, hacc, ha, hl⟩ y
    refine hs i x H H' hi s y _ _ (fun v H4 d e s4 hv => ?_) (fun H3 e s3 => ?_)
    · have hD4 := s4 _ _ hacc
      refine ⟨acc, hD4, Nat.lt_of_le_of_lt hl (Nat.lt_of_lt_of_le (show i < 100000 by omega) (by decide)), acc ++ [v], same_put (s.trans s4) hD, upd_same, ?_, by rw [List.length_append]; exact Nat.succ_le_succ hl⟩
      rw [List.range_succ, List.filterMap_append]
      have e1 : ([i].filterMap R) = [d] := by simp [e]
      rw [e1]
      exact DpAll.snoc (dp_keep (fun _ _ q => sqt_put hD4 q) _ _ (hfl i hi d e) hv) (dps_keep (fun _ _ q => sqt_put hD4 q) _ _ (fl i (by omega)) (dps_same s4 _ _ ha))
    · refine ⟨acc, s.trans s3, s3 _ _ hacc, ?_, by omega⟩
      rw [List.range_succ, List.filterMap_append]
      have e1 : ([i].filterMap R) = [] := by simp [e]
      rw [e1, List.append_nil]
      exact dps_same s3 _ _ ha
  · rintro H ⟨acc, s, hacc, ha, _⟩
    exact hd H acc s hacc ha
/-- a comprehension that draws: each item is data that is good -/
theorem lc_draw {K : PySem.W.Frag} {M : Addr → Prop} {J : It} {n : Nat} {G : Hp → Prop} {Y : Nat → Hp → V → Hp → Prop} (wk : Walk J n G Y) {g : TG} {tt : TT} {te : TE} {vs : List Nat} {σ : L2.St} {H1 : Hp} {D : Addr} {Qd : Hp → Prop}
    (I : Hp → Prop) (Gd : PyData → Prop) (hM : ∀ a, M a → ∃ xs, H1 a = some (.lst xs)) (h0 : I (upd H1 D (.lst []))) (hI : ∀ H ys, Kp M H1 H → I H → I (upd H D (.lst ys)))
    (hD : H1 D = Option.none) (hn : n ≤ 100000) (hG : ∀ H, Kp M H1 H → I H → G H) (hfl : ∀ d, Gd d → flatD d = true)
    (hs : ∀ i x H H', i < n → Kp M H1 H → I H → Y i H x H' → ∀ (Q1 : VK) (Q0 : Hp → Prop), (∀ v H4 d, Gd d → Kp M H H4 → I H4 → Dp K H4 v d → Q1 v H4) → (∀ H3, Kp M H H3 → I H3 → Q0 H3) →
      g x (wipe σ vs) H' fun σ2 H2 => wipe σ2 vs = wipe σ vs ∧ tt σ2 H2 fun b H3 => if b = true then te σ2 H3 Q1 else Q0 H3)
    (hd : ∀ H acc ds, Kp M H1 H → I H → H D = some (.lst acc) → DpAll K H acc ds → (∀ d ∈ ds, Gd d) → ds.length ≤ n → Qd H) :
    ∃ W : Nat → Nat → Hp → Prop, (∃ m, W 0 m (upd H1 D (.lst []))) ∧ ∀ i m H, W i m H →
      (J.stop i H ∧ Qd H) ∨ (J.go i H ∧ ∃ Nx : Hp → Prop, (∀ H', Nx H' → ∃ m', m' < m ∧ W (i + 1) m' H') ∧ ∀ x H', J.yld i H x H' → g x (wipe σ vs) H' fun σ2 H2 => wipe σ2 vs = wipe σ vs ∧ tt σ2 H2 fun b H3 =>
        if b = true then te σ2 H3 fun y H4 => ∃ acc, H4 D = some (.lst acc) ∧ acc.length < sizeLine ∧ Nx (upd H4 D (.lst (acc ++ [y]))) else Nx H3) := by
  have nM : ¬ M D := fun m => by
    obtain ⟨xs, e⟩ := hM D m
    rw [hD] at e
    cases e
  refine lc_it wk (fun i H => ∃ acc ds, Kp M H1 H ∧ I H ∧ H D = some (.lst acc) ∧ DpAll K H acc ds ∧ (∀ d ∈ ds, Gd d) ∧ ds.length ≤ i) ⟨[], [], Kp.new hM hD, h0, upd_same, .nil, (by intro d hd; cases hd), Nat.le_refl _⟩ (fun i H _ z => ?_) ?_ ?_
  · obtain ⟨acc, ds, s, iH, _⟩ := z
    exact hG H s iH
  · rintro i x H H' hi ⟨acc, ds, s, iH, hacc, ha, hg, hl⟩ y
    have fl : flatDs ds = true := flatDs_of _ fun d hd => hfl d (hg d hd)
    refine hs i x H H' hi s iH y _ _ (fun v H4 d e s4 i4 hv => ?_) (fun H3 s3 i3 => ?_)
    · have hD4 := s4.st _ _ nM hacc
      refine ⟨acc, hD4, ?_, acc ++ [v], ds ++ [d], (s.trans s4).mut hD, hI _ _ (s.trans s4) i4, upd_same, ?_, ?_, by rw [List.length_append]; exact Nat.succ_le_succ hl⟩
      · rw [DpAll.len ha]
        exact Nat.lt_of_le_of_lt hl (Nat.lt_of_lt_of_le (show i < 100000 by omega) (by decide))
      · exact DpAll.snoc (dp_keep (fun _ _ q => sqt_put hD4 q) _ _ (hfl d e) hv) (dps_keep (fun _ _ q => sqt_put hD4 q) _ _ fl (dps_keep (fun _ _ q => s4.tup q) _ _ fl ha))
      · intro d' hd'
        rcases List.mem_append.mp hd' with q | q
        · exact hg d' q
        · cases List.mem_singleton.mp q
          exact e
    · exact ⟨acc, ds, s.trans s3, i3, s3.st _ _ nM hacc, dps_keep (fun _ _ q => s3.tup q) _ _ fl ha, hg, by omega⟩
  · rintro H ⟨acc, ds, s, iH, hacc, ha, hg, hl⟩
    exact hd H acc ds s iH hacc ha hg hl
/-! ### data that repr takes -/
structure Sm (D W : Nat) (d : PyData) : Prop where
  ok : okD d = true
  dp : d.depth ≤ D
  wt : d.weight ≤ W
theorem Sm.mono {D W D' W' : Nat} {d : PyData} (x : Sm D W d) (h1 : D ≤ D') (h2 : W ≤ W') : Sm D' W' d := ⟨x.ok, Nat.le_trans x.dp h1, Nat.le_trans x.wt h2⟩
theorem sm_int {i : Int} (h : i.natAbs < 10 ^ 12) : Sm 0 64 (.int i) := ⟨by simp only [okD]; exact decide_eq_true h, by simp [PyData.depth], wt_int h⟩
theorem sm_all {D W : Nat} : ∀ {ds : List PyData}, (∀ d ∈ ds, Sm D W d) → okDs ds = true ∧ PyData.depthAll ds ≤ D ∧ PyData.weightAll ds ≤ ds.length * (W + 2)
  | [], _ => ⟨rfl, by simp [PyData.depthAll], by simp [PyData.weightAll]⟩
  | d :: ds, h => by
    have a := h d List.mem_cons_self
    obtain ⟨b1, b2, b3⟩ := sm_all (ds := ds) fun x hx => h x (List.mem_cons_of_mem _ hx)
    refine ⟨by simp [okDs, a.ok, b1], ?_, ?_⟩
    · have := a.dp
      simp only [PyData.depthAll]
      omega
    · have := a.wt
      simp only [PyData.weightAll, List.length_cons, Nat.add_mul]
      omega
theorem Sm.tuple {D W m : Nat} {ds : List PyData} (h : ∀ d ∈ ds, Sm D W d) (hm : ds.length ≤ m) : Sm (D + 1) (m * (W + 2)) (.tuple ds) := by
  obtain ⟨a, b, c⟩ := sm_all h
  refine ⟨by simpa [okD] using a, ?_, ?_⟩
  · simp only [PyData.depth]
    omega
  · simp only [PyData.weight]
    exact Nat.le_trans c (Nat.mul_le_mul_right _ hm)
theorem Sm.rep {K : PySem.W.Frag} {H : Hp} {x : V} {D W : Nat} {d : PyData} {Q : VK} (s : Sm D W d) (h1 : D ≤ 60) (h2 : W ≤ 2 ^ 20) (hd : Rp K H x d) (q : Q (.str d.shown) H) : rRepr K [x] H Q :=
  ⟨x, d, rfl, hd, s.ok, Nat.le_trans s.dp h1, Nat.le_trans s.wt h2, q⟩
theorem sm_kv {D W : Nat} : ∀ {es : List (Int × PyData)}, (∀ e ∈ es, e.1.natAbs < 10 ^ 12 ∧ Sm D W e.2) → okDk (es.map fun e => (PyData.int e.1, e.2)) = true ∧ PyData.depthKv (es.map fun e => (PyData.int e.1, e.2)) ≤ D ∧ PyData.weightKv (es.map fun e => (PyData.int e.1, e.2)) ≤ es.length * (W + 70)
  | [], _ => ⟨rfl, by simp [PyData.depthKv], by simp [PyData.weightKv]⟩
  | e :: es, h => by
    obtain ⟨a1, a⟩ := h e List.mem_cons_self
    obtain ⟨b1, b2, b3⟩ := sm_kv (es := es) fun x hx => h x (List.mem_cons_of_mem _ hx)
    have i := sm_int a1
    refine ⟨by simp [okDk, a.ok, b1, i.ok], ?_, ?_⟩
    · have := a.dp
      have := i.dp
      simp only [List.map_cons, PyData.depthKv]
      omega
    · have := a.wt
      have := i.wt
      simp only [List.map_cons, PyData.weightKv, List.length_cons, Nat.add_mul] at this ⊢
      omega
/-- what repr is asked of -/
def Rok (K : PySem.W.Frag) (H : Hp) (x : V) (d : PyData) : Prop := Rp K H x d ∧ okD d = true ∧ d.depth ≤ 60 ∧ d.weight ≤ 2 ^ 20
theorem Sm.rok {K : PySem.W.Frag} {H : Hp} {x : V} {D W : Nat} {d : PyData} (s : Sm D W d) (h1 : D ≤ 60) (h2 : W ≤ 2 ^ 20) (hd : Rp K H x d) : Rok K H x d :=
  ⟨hd, s.ok, Nat.le_trans s.dp h1, Nat.le_trans s.wt h2⟩
/-- the whole dict of things -/
theorem ThAt.rok {K : PySem.W.Frag} {H : Hp} {d : Addr} {es : List (Int × PyData)} {kvs : List (Key × V)} (x : ThAt K H d es kvs) {n : Nat} (hk : es.map (·.1) = births n) (hn : n ≤ 100) : Rok K H (.ref d) (PyData.dict (es.map fun e => (PyData.int e.1, e.2))) := by
  obtain ⟨a, b, c⟩ := sm_kv (D := 8) (W := 4000) (es := es) fun e he => by
    have m : e.1 ∈ births n := by rw [← hk]; exact List.mem_map.mpr ⟨e, he, rfl⟩
    have := births_mem.mp m
    exact ⟨by omega, ⟨(x.th e he).ok, (x.th e he).dp, (x.th e he).wt⟩⟩
  have hl : es.length = n := by
    have e := congrArg List.length hk
    rw [List.length_map, births_len] at e
    exact e
  refine ⟨.inr ⟨d, kvs, es, rfl, x.at_, x.ks, x.vs, x.fl, rfl⟩, by simpa [okD] using a, ?_, ?_⟩
  · simp only [PyData.depth]
    omega
  · simp only [PyData.weight]
    refine Nat.le_trans c ?_
    rw [hl]
    exact Nat.le_trans (Nat.mul_le_mul_right _ hn) (by decide)
end Cm

/-! defs that may ask repr, called by name where nothing is under repr -/
namespace Cm
open PySem L2 PySem.Spec PyProof.Rows
structure ClG (P : Program) (w : World) (K : PySem.W.Frag) (mg : Str → Option Value) (base : Heap) (k : Nat) (x : Str) (sp : Sp) : Prop where
  ex : ∃ (f : Addr) (fd : FuncData) (ps : List Str), (∀ vs H Q E, sp vs H Q E → vs.length = ps.length) ∧ LawAt P w K mg base k f fd ps sp ∧ mg x = some (.ref f) ∧ PySem.W.keepIn K (.ref f) = true ∧ Binds K fd ps []
section
variable {P : Program} {w : World} {K : PySem.W.Frag} {mg : Str → Option Value} {base : Heap}
theorem clG_of {x : Str} {st : Stmt} {N ps : List Str} {k : Nat} {sp : Sp} (T : At K mg x st ps) (S : FnScope N ps (defScope st))
    (len : ∀ vs H Q E, sp vs H Q E → vs.length = ps.length)
    (hb : ∀ (f : Addr) (cdv : Value) (A : Around) (outer : List Env) (s : Shared) (H : Hp) (vs : List V) (Q : VK) (E : XK), (A.deeper (envOfC x (defScope st) s.heap.objs.size f cdv)).guards = some [] →
      Room k (A.deeper (envOfC x (defScope st) s.heap.objs.size f cdv)) → sp vs H Q E →
      ∃ t, PSs (cxOf CX0 P w K mg base N x (defScope st) f cdv A outer s H E).nox (defBody st) t ∧ t { nx := fun _ H' => Q .non H', rt := Q } (start N vs) H) :
    ClG P w K mg base (k + 1) x sp := by
  obtain ⟨f, fd, F, hm, b⟩ := T.ex
  exact ⟨f, fd, ps, len, lawAt_of F S len fun cdv A outer s H vs Q E hg => hb f cdv A outer s H vs Q E hg, hm, F.kp, b⟩
end
section
variable {X : Cx} {j k : Nat} {x : Str} {sp : Sp} {e : Expr} {es : List Expr} {t : TA} {p pos : Pos}
theorem pe_cG (c : ClG X.prog X.w X.K X.mg X.base k x sp) (hgd : X.A.guards = some []) (hr : Room j X.A) (hk : k ≤ j) (hg : Gl X x) (ha : PA X (e :: es) t)
    (hdb : (x == ("__debug__" : Str)) = false := by decide) (he : starEach (e :: es) X.env = (false, eval e X.env) :: starEach es X.env := by rfl)
    (hpl : (backTo pos (starEach es X.env)).any (·.1) = false := by rfl) : PE X (.Call (.Name x p) (e :: es) [] pos) (tCall sp [] E0 t) := by
  obtain ⟨f, fd, ps, len, F, hm, kp, b⟩ := c.ex
  refine ⟨fun pins s σ H Q I h => ?_⟩
  refine wpAny_Call_Name_kw (ld_glob I hg hm ?_ hdb)
  refine PySem.W.callWith_K (h₀ := X.base) I.ok.mod.kin kp (thn (ha.run pos pins s σ H _ I h) fun us s1 ⟨vs, H1, I1, r, q⟩ => ⟨I1.kIn, ?_⟩) he hpl
  have q' : sp vs H1 Q E0 := by
    have q0 : sp (vs ++ []) H1 Q E0 := q
    rwa [List.append_nil] at q0
  have hl : us.length = ps.length := by rw [← r.length]; exact len _ _ _ _ q'
  have hb := b s1 us I1.kIn (by rw [List.append_nil]; exact hl)
  rw [List.append_nil] at hb
  refine wpAny_call (codeAny_mono (F X.A X.stack s1 H1 ⟨us, []⟩ us vs Q E0 hgd (hr.mono hk) I1.env0 hb r q') fun r s' hq => ?_)
  cases r with
  | error e => exact pass0 pins σ H1 s1 e s' I1 hq
  | ok fl =>
    cases fl with
    | ret u => exact I1.after hq
    | next => exact False.elim hq
    | brk => exact False.elim hq
    | cont => exact False.elim hq
end
/-! ### a walk over a list or a tuple -/
def iSeq (K : PySem.W.Frag) (tl : TE) : TI := fun σ H R => tl σ H fun x H1 => ∃ a, x = .ref a ∧ ((∃ xs, SqL K H1 a xs) ∧ R (Itl K a) H1 ∨ (∃ xs, SqT K H1 a xs) ∧ R (Itt K a) H1)
theorem pi_seq {X : Cx} {tg l : Expr} {tl : TE} (hl : PE X l tl) : PI X tg l (iSeq X.K tl) := by
  refine ⟨fun pins s σ H R I h => ?_⟩
  refine thn (hl.run pins s σ H _ I h) fun v s1 ⟨x, H1, I1, r1, q1⟩ => ?_
  obtain ⟨a, rfl, q1⟩ := q1
  cases r1
  have fp : ∀ b ∈ [s1.heap.objs.size], b = s1.heap.objs.size := fun b hb => by simpa using hb
  rcases q1 with ⟨⟨xs, hq⟩, q⟩ | ⟨⟨xs, hq⟩, q⟩
  · obtain ⟨its, rv, p, hz⟩ := I1.list hq
    refine wpAny_pyIter_list p.isList ?_
    refine ⟨_, _, _, _, H1, rfl, I1.kept (t' := s1.toks) fun b o e => Heap.get?_push_of_some _ e, turn_list a _, ⟨_, Heap.get?_push_size _ rfl, rfl, rfl⟩, fun b hb => ?_, q⟩
    cases fp b hb
    exact I1.fpOk (Nat.le_refl _) (I1.hok.fresh (Nat.le_refl _))
  · obtain ⟨its, rv, p, hz⟩ := I1.tuple hq
    refine wpAny_pyIter_tuple (show s1.heap.IsTuple a its.toArray from p) ?_
    refine ⟨_, _, _, _, H1, rfl, I1.kept (t' := s1.toks) fun b o e => Heap.get?_push_of_some _ e, turn_tuple a _, ⟨_, Heap.get?_push_size _ rfl, rfl, rfl⟩, fun b hb => ?_, q⟩
    cases fp b hb
    exact I1.fpOk (Nat.le_refl _) (I1.hok.fresh (Nat.le_refl _))
theorem ks_tupA {X : Cx} {K : PySem.W.Frag} (h : X.K = K := by rfl) : SlR X (rSlA K) := by subst h; exact sl_tupA
theorem ne_same (x : V) : (!decide (x = x)) = false := by simp
theorem tyx_tup {K : PySem.W.Frag} {H : Hp} {a : Addr} {xs : List V} (h : SqT K H a xs) : TyX K H (.ref a) (.type "tuple") := by
  rcases h with (h | ⟨o, h⟩) | ⟨o, its, n, e, c, _⟩
  · exact .base (.tup h)
  · exact .fTuple h
  · exact .kTuple e c
theorem kit_tup {K : PySem.W.Frag} : PySem.W.kitOne K (.type "tuple") (.type "tuple") = some true := by rfl
end Cm

namespace K32
open PySem L2 Cm
def top (i : Nat) : Stmt := PySem.Challenge.pw_goonagain_k32_whole_listings_read_back_o.main.body.getD i (.Pass ⟨0, 0, 0, 0⟩)
structure Txt (mg : Str → Option Value) : Prop where
  abs : mg "abs" = none
  enumerate : mg "enumerate" = none
  int : mg "int" = none
  isinstance : mg "isinstance" = none
  len : mg "len" = none
  list : mg "list" = none
  range : mg "range" = none
  str : mg "str" = none
  tuple : mg "tuple" = none
  zip : mg "zip" = none
section
variable {P : Program} {w : World} {K : PySem.W.Frag} {mg : Str → Option Value} {base : Heap}
-- mix
abbrev s_l_mix : Stmt := top 49
abbrev N_l_mix : List Str := ["_law_number_here", "_law_turn", "_law_once", "_law_twice"]
theorem sc_l_mix : FnScope N_l_mix ["_law_number_here", "_law_turn"] (defScope s_l_mix) := ⟨rfl, rfl, rfl, by decide +kernel, rfl, by decide +kernel, by decide +kernel⟩
theorem ok_mix (T : Txt mg) (D : At K mg "_law_mix" s_l_mix ["_law_number_here", "_law_turn"]) : Cl P w K mg base 1 "_law_mix" spMix := by
  refine cl_of D sc_l_mix (fun vs H Q E h => ?_) fun f cdv A outer s H vs Q E hr h => ?_
  · obtain ⟨a, b, rfl, _⟩ := h
    rfl
  · obtain ⟨a, b, rfl, k⟩ := h
    refine ⟨_, (pss_cons (ps_set (i := 2) sc_l_mix.nd rfl (Or.inl rfl) (pe_op op_mod (pe_callTy call_int1 (by rfl) T.int (by decide +kernel) (pa_cons (pe_op op_add (pe_op op_add (pe_op op_mul (pv 0) pe_int) (pe_op op_mul (pv 1) pe_int)) pe_int) pa_nil)) pe_int))
      (pss_cons (ps_set (i := 3) sc_l_mix.nd rfl (Or.inl rfl) (pe_op op_mod (pe_callTy call_int1 (by rfl) T.int (by decide +kernel) (pa_cons (pe_op op_add (pe_op op_add (pe_op op_mul (pv 2) (pv 2)) (pe_op op_mul (pe_op op_fdiv (pv 2) pe_int) pe_int)) (pe_op op_mul (pv 1) pe_int)) pa_nil)) pe_int))
      (pss_one (ps_ret (pe_op op_fdiv (pe_op op_mod (pe_callTy call_int1 (by rfl) T.int (by decide +kernel) (pa_cons (pe_op op_add (pe_op op_fdiv (pe_op op_mul (pv 3) (pv 3)) pe_int) (pv 2)) pa_nil)) pe_int) pe_int))))), ?_⟩
    refine ⟨_, rfl, _, _, rfl, rfl, .inr (by decide), ?_⟩
    refine ⟨_, rfl, _, _, rfl, rfl, .inr (by decide), ?_⟩
    refine ⟨_, _, rfl, rfl, _, _, rfl, rfl, .inl ⟨_, rfl, _, _, rfl, rfl, (by show (0 : Int) < _; decide), ?_⟩⟩
    generalize hx : (a * 48271 + b * 16807 + 11) % 2147483647 = x
    have x0 : 0 ≤ x := by omega
    have x1 : x < 2147483647 := by omega
    clear hx
    refine ⟨_, rfl, _, rfl, _, _, rfl, rfl, .inl ⟨by omega, by omega⟩, ?_⟩
    refine ⟨_, rfl, _, _, rfl, rfl, ⟨by decide, by decide⟩, _, _, rfl, rfl, .inr (by decide), ?_⟩
    refine ⟨_, _, rfl, rfl, _, rfl, _, _, rfl, rfl, .inr (by decide), _, _, rfl, rfl, .inl ⟨_, rfl, _, _, rfl, rfl, (by show (0 : Int) < _; decide), ?_⟩⟩
    generalize hy : (x * x + x / 127 * 40692 + b * 69621) % 2147483399 = y
    have y0 : 0 ≤ y := by omega
    have y1 : y < 2147483399 := by omega
    clear hy
    refine ⟨_, rfl, _, rfl, _, _, rfl, rfl, .inl ⟨by omega, by omega⟩, _, _, rfl, rfl, ⟨by decide, by decide⟩, ?_⟩
    refine ⟨_, rfl, _, _, rfl, rfl, .inl ⟨_, rfl, _, _, rfl, rfl, (by show (0 : Int) < _; decide), _, _, rfl, rfl, ⟨by decide, by decide⟩, ?_⟩⟩
    exact k _
-- hand
abbrev s_l_hand : Stmt := top 50
abbrev N_l_hand : List Str := ["_law_script", "_law_total", "_law_k", "_law_cell"]
theorem sc_l_hand : FnScope N_l_hand ["_law_script"] (defScope s_l_hand) := ⟨rfl, rfl, rfl, by decide +kernel, rfl, by decide +kernel, by decide +kernel⟩
theorem ok_hand (T : Txt mg) (D : At K mg "_law_hand" s_l_hand ["_law_script"]) : Cl P w K mg base 1 "_law_hand" (spHand K) := by
  refine cl_of D sc_l_hand (fun vs H Q E h => ?_) fun f cdv A outer s H vs Q E hr h => ?_
  · obtain ⟨a, ns, rfl, _⟩ := h
    rfl
  · obtain ⟨a, ns, rfl, hS, hlen, k⟩ := h
    refine ⟨_, (pss_cons (ps_set (i := 1) sc_l_hand.nd rfl (Or.inl rfl) pe_int)
      (pss_cons (ps_for PassesOwn.never rfl (pi_enum (by rfl) T.enumerate (pa_cons (pv 0) pa_nil)) (pg_tup (by rfl) (pgs_cons (pg_name (i := 2) sc_l_hand.nd rfl (Or.inl rfl)) (pgs_cons (pg_name (i := 3) sc_l_hand.nd rfl (Or.inl rfl)) pgs_nil)))
        (pss_one (ps_set (i := 1) sc_l_hand.nd rfl (Or.inl rfl) (pe_op op_mod (pe_callTy call_int1 (by rfl) T.int (by decide +kernel) (pa_cons (pe_op op_add (pe_op op_mul (pv 1) pe_int) (pe_op op_mul (pe_callTy call_int1 (by rfl) T.int (by decide +kernel) (pa_cons (pv 3) pa_nil)) (pe_op op_add (pv 2) pe_int))) pa_nil)) pe_int))))
      (pss_one (ps_ret (pe_lst (pa_cons (pe_lc (own := [("_law_cell", 3)]) rfl sc_l_hand.nd (pi_list (pv 0)) (blkOk_by (N := N_l_hand) (sc := defScope s_l_hand) (by decide +kernel))
      (fun _ _ _ _ _ => (pg_name (i := 3) sc_l_hand.nd rfl (Or.inl rfl)))
      (fun _ _ _ _ _ => pts_nil)
      (fun _ _ _ _ _ => (pe_callB call_abs (by rfl) T.abs (by decide +kernel) (pa_cons (pe_callTy call_int1 (by rfl) T.int (by decide +kernel) (pa_cons (pv 3) pa_nil)) pa_nil)))) (pa_cons pe_int (pa_cons pe_int (pa_cons (pv 1) pa_nil))))))))), ?_⟩
    refine ⟨_, rfl, a, _, rfl, hS, ?_⟩
    refine for_it (walk_enum (xs := ns.map V.int)) (fun i σ H' => ∃ (t : Int) (v2 v3 : Option V), σ = [some (.ref a), some (.int t), v2, v3] ∧ Same H H') ⟨0, none, none, rfl, Same.refl H⟩ (fun i σ H' _ z => ?_) ?_ ?_
    · obtain ⟨t, v2, v3, rfl, s1⟩ := z
      exact s1.seq hS
    · rintro i x σ H1 H2 hi ⟨t, v2, v3, rfl, s1⟩ ⟨T1, x1, x2, rfl, hT, rfl, e1, e2⟩
      cases e1
      obtain ⟨n, en, rfl⟩ := map_at e2
      refine ⟨T1, _, rfl, .inl (.inl upd_same), rfl, _, _, rfl, _, _, rfl, rfl, ?_⟩
      refine ⟨_, rfl, _, _, rfl, rfl, .inr (by decide), _, rfl, .inl ⟨_, rfl, ?_⟩⟩
      refine ⟨_, rfl, _, _, rfl, rfl, _, _, rfl, rfl, .inr ⟨?_, ?_⟩, ?_⟩
      · rw [List.length_map] at hi
        omega
      · rw [List.length_map] at hi
        omega
      refine ⟨_, _, rfl, rfl, .inl ⟨_, rfl, _, _, rfl, rfl, (by show (0 : Int) < _; decide), ?_⟩⟩
      exact ⟨_, _, _, rfl, s1.trans (same_new hT)⟩
    · rintro σ H1 ⟨t, v2, v3, rfl, s1⟩
      refine ⟨_, rfl, a, rfl, ⟨_, s1.seq hS⟩, fun D hD => ?_⟩
      refine lc_it (walk_list (xs := ns.map V.int)) (fun i H' => ∃ acc : List Int, Same H1 H' ∧ H' D = some (.lst (acc.map V.int)) ∧ acc.length = i) ⟨[], same_new hD, upd_same, rfl⟩ (fun i H' _ z => ?_) ?_ ?_
      · obtain ⟨acc, s2, _⟩ := z
        exact (s1.trans s2).seq hS
      · rintro i x H2 H3 hi ⟨acc, s2, hacc, hl⟩ ⟨rfl, e2⟩
        obtain ⟨n, en, rfl⟩ := map_at e2
        rw [List.length_map] at hi
        refine ⟨rfl, ?_⟩
        refine ⟨_, rfl, .inl ⟨_, rfl, _, rfl, _, hacc, ?_, ?_⟩⟩
        · rw [List.length_map]
          exact Nat.lt_of_lt_of_le (show acc.length < 63 by omega) (by decide)
        · refine ⟨acc ++ [if n < 0 then -n else n], fun b o e => ?_, ?_, ?_⟩
          · have hb : b ≠ D := ne_of_none e hD
            rw [upd_ne hb]
            exact s2 b o e
          · rw [upd_same, List.map_append]
            rfl
          · rw [List.length_append, hl]
            rfl
      · rintro H2 ⟨acc, s2, hacc, hl⟩
        refine ⟨_, rfl, by show 4 ≤ sizeLine; decide, fun p hp => ?_⟩
        rw [List.length_map] at hl
        have npD : D ≠ p := ne_of_none hacc hp
        refine k p D _ ((s1.trans s2).trans (same_new hp)) ((s1.trans s2).free hp) (s1.free hD) ⟨acc, _, _, _, upd_same, ?_, npD, Int.le_refl 0, by omega⟩
        rw [upd_ne npD]
        exact hacc
end
section
variable {P : Program} {w : World} {K : PySem.W.Frag} {mg : Str → Option Value} {base : Heap}
abbrev s_l_draw : Stmt := top 51
abbrev N_l_draw : List Str := ["_law_hand_here", "_law_many", "_law_cell", "_law_rest"]
theorem sc_l_draw : FnScope N_l_draw ["_law_hand_here", "_law_many"] (defScope s_l_draw) := ⟨rfl, rfl, rfl, by decide +kernel, rfl, by decide +kernel, by decide +kernel⟩
theorem ok_draw (T : Txt mg) (c_l_mix : Cl P w K mg base 1 "_law_mix" spMix) (D : At K mg "_law_draw" s_l_draw ["_law_hand_here", "_law_many"]) : Cl P w K mg base 2 "_law_draw" spDraw := by
  refine cl_of D sc_l_draw (fun vs H Q E h => ?_) fun f cdv A outer s H vs Q E hr h => ?_
  · obtain ⟨h, c, m, rfl, _⟩ := h
    rfl
  · obtain ⟨h, c, m, rfl, ⟨cells, i, b, t, e1, e2, nch, hi, hlen⟩, hm0, hm1, k⟩ := h
    refine ⟨_, (pss_mid (ps_if (PW.pt (pw_and (pt_cmpR op_eq (pe_ix ix_list (pv 0) pe_int (fun _ _ => rfl)) pe_int (nomark _)) (pw_and1 (pt_cmpR op_lt (pe_ix ix_list (pv 0) pe_int (fun _ _ => rfl)) (pe_callB call_len_seq (by rfl) T.len (by decide +kernel) (pa_cons (pe_ix ix_list (pv 0) pe_int (fun _ _ => rfl)) pa_nil)) (nomark _)))))
        (pss_cons (ps_set (i := 2) sc_l_draw.nd rfl (Or.inl rfl) (pe_ix ix_list (pe_ix ix_list (pv 0) pe_int (fun _ _ => rfl)) (pe_ix ix_list (pv 0) pe_int (fun _ _ => rfl)) (fun _ _ => rfl)))
        (pss_cons (ps_asg (pe_op op_add (pe_ix ix_list (pv 0) pe_int (fun _ _ => rfl)) pe_int) (pg_sub (pv 0) pe_int set_list))
        (pss_cons (ps_if (pt_cmpR op_lt (pv 2) (pe_op op_pow pe_int pe_int) (nomark _))
          (pss_one (ps_ret (pe_op op_mod (pe_callTy call_int1 (by rfl) T.int (by decide +kernel) (pa_cons (pe_c c_l_mix hr (by decide) (by rfl) (pa_cons (pe_op op_mod (pe_callTy call_int1 (by rfl) T.int (by decide +kernel) (pa_cons (pv 2) pa_nil)) pe_int) (pa_cons (pe_ix ix_list (pv 0) pe_int (fun _ _ => rfl)) pa_nil))) pa_nil)) (pv 1))))
          pss_nil)
        (pss_one (ps_asg (pv 2) (pg_sub (pv 0) pe_int set_list))))))
        pss_nil)
      (pss_cons (ps_if (pt_cmpR op_gt (pe_ix ix_list (pv 0) pe_int (fun _ _ => rfl)) pe_int (nomark _))
        (pss_cons (ps_set (i := 3) sc_l_draw.nd rfl (Or.inl rfl) (pe_ix ix_list (pv 0) pe_int (fun _ _ => rfl)))
        (pss_cons (ps_asg (pe_op op_fdivW (pv 3) (pv 1)) (pg_sub (pv 0) pe_int set_list))
        (pss_one (ps_ret (pe_op op_mod (pe_callTy call_int1 (by rfl) T.int (by decide +kernel) (pa_cons (pv 3) pa_nil)) (pv 1))))))
        pss_nil)
      (pss_cons (ps_asg (pe_op op_mod (pe_callTy call_int1 (by rfl) T.int (by decide +kernel) (pa_cons (pe_op op_add (pe_ix ix_list (pv 0) pe_int (fun _ _ => rfl)) pe_int) pa_nil)) pe_int) (pg_sub (pv 0) pe_int set_list))
      (pss_one (ps_ret (pe_op op_mod (pe_callTy call_int1 (by rfl) T.int (by decide +kernel) (pa_cons (pe_c c_l_mix hr (by decide) (by rfl) (pa_cons (pe_ix ix_list (pv 0) pe_int (fun _ _ => rfl)) (pa_cons (pe_ix ix_list (pv 0) pe_int (fun _ _ => rfl)) pa_nil))) pa_nil)) (pv 1))))))), ?_⟩
    have big : CDivW b m := wide_div (b := 100) hm0 (by omega) (by decide) (by decide)
    have kh0 : ∀ {ys : List V}, Kh h H (upd H h (.lst ys)) := Kp.put (fun a ha => by rw [ha]; exact ⟨_, e1⟩) rfl
    refine ⟨fun σ' H' => ∃ (i b t : Int) (v2 v3 : Option V), σ' = [some (.ref h), some (.int m), v2, v3] ∧ Kh h H H' ∧ H' h = some (.lst [.ref c, .int i, .int b, .int t]) ∧ H' c = some (.lst (cells.map V.int)) ∧ 0 ≤ i, ?_, ?_⟩
    · refine ⟨_, rfl, _, _, _, _, rfl, rfl, .inl (.inl e1), rfl, rfl, _, rfl, ?_⟩
      refine ite2 (fun _ => ?_) (fun _ => ?_)
      · refine ⟨_, rfl, _, _, _, _, rfl, rfl, .inl (.inl e1), rfl, _, rfl, _, _, _, _, rfl, rfl, .inl (.inl e1), rfl, c, _, rfl, .inl (.inl (.inl e2)), _, _, rfl, rfl, _, rfl, ?_⟩
        refine ite2 (fun hlt => ?_) (fun _ => ?_)
        · have hlt' : i < (cells.length : Int) := by
            have := of_decide_eq_true hlt
            rw [List.length_map] at this
            exact this
          obtain ⟨j, rfl⟩ : ∃ j : Nat, i = (j : Int) := ⟨i.toNat, by omega⟩
          have hj : j < cells.length := by omega
          have hat : atI (cells.map V.int) (j : Int) = some (.int cells[j]) := atI_nat (by rw [List.getElem?_map, List.getElem?_eq_getElem hj]; rfl)
          refine ⟨_, rfl, _, _, _, _, rfl, rfl, .inl (.inl e1), rfl, _, rfl, _, _, _, _, rfl, rfl, .inl (.inl e1), rfl, c, _, _, _, rfl, rfl, .inl (.inl e2), hat, ?_⟩
          refine ⟨_, rfl, _, _, _, _, rfl, rfl, .inl (.inl e1), rfl, _, _, rfl, rfl, _, rfl, h, _, _, 1, rfl, rfl, e1, rfl, ?_⟩
          have e2' : upd H h (.lst [.ref c, .int ((j : Int) + 1), .int b, .int t]) c = some (.lst (cells.map V.int)) := by rw [upd_ne nch]; exact e2
          refine ⟨_, rfl, _, _, rfl, rfl, ⟨by decide, by decide, by decide⟩, _, _, rfl, rfl, _, rfl, ?_⟩
          refine ite2 (fun _ => ?_) (fun _ => ?_)
          · refine ⟨_, rfl, .inl ⟨_, rfl, _, _, rfl, rfl, (by show (0 : Int) < _; decide), _, rfl, _, _, _, _, rfl, rfl, .inl (.inl upd_same), rfl, ?_⟩⟩
            refine ⟨_, _, rfl, fun n => .inl ⟨_, rfl, _, rfl, _, _, rfl, rfl, hm0, ?_⟩⟩
            exact k _ _ (Int.emod_nonneg _ (by omega)) (Int.emod_lt_of_pos _ hm0) kh0 ⟨cells, _, _, _, upd_same, e2', nch, by omega, hlen⟩
          · refine ⟨_, rfl, _, rfl, h, _, _, 2, rfl, rfl, upd_same, rfl, ?_⟩
            rw [upd_upd]
            exact ⟨_, _, _, _, _, rfl, kh0, upd_same, by rw [upd_ne nch]; exact e2, by omega⟩
        · exact ⟨i, b, t, _, _, rfl, Kp.refl (fun a ha => by rw [ha]; exact ⟨_, e1⟩), e1, e2, hi⟩
      · exact ⟨i, b, t, _, _, rfl, Kp.refl (fun a ha => by rw [ha]; exact ⟨_, e1⟩), e1, e2, hi⟩
    · rintro σ' H' ⟨i, b, t, v2, v3, rfl, kh, e1, e2, hi⟩
      have kh1 : ∀ {ys : List V}, Kh h H (upd H' h (.lst ys)) := kh.trans (Kp.put (fun a ha => by rw [ha]; exact ⟨_, e1⟩) rfl)
      refine ⟨_, rfl, _, _, _, _, rfl, rfl, .inl (.inl e1), rfl, _, _, rfl, rfl, _, rfl, ?_⟩
      refine ite2 (fun _ => ?_) (fun _ => ?_)
      · refine ⟨_, rfl, _, _, _, _, rfl, rfl, .inl (.inl e1), rfl, _, rfl, _, rfl, _, _, rfl, rfl, big, _, rfl, h, _, _, 2, rfl, rfl, e1, rfl, ?_⟩
        refine ⟨_, rfl, .inl ⟨_, rfl, _, rfl, _, _, rfl, rfl, hm0, ?_⟩⟩
        exact k _ _ (Int.emod_nonneg _ (by omega)) (Int.emod_lt_of_pos _ hm0) kh1 ⟨cells, _, _, _, upd_same, by rw [upd_ne nch]; exact e2, nch, hi, hlen⟩
      · refine ⟨_, rfl, _, _, _, _, rfl, rfl, .inl (.inl e1), rfl, _, _, rfl, rfl, .inl ⟨_, rfl, _, _, rfl, rfl, (by show (0 : Int) < _; decide), _, rfl, h, _, _, 3, rfl, rfl, e1, rfl, ?_⟩⟩
        refine ⟨_, rfl, _, _, _, _, rfl, rfl, .inl (.inl upd_same), rfl, _, rfl, _, _, _, _, rfl, rfl, .inl (.inl upd_same), rfl, ?_⟩
        refine ⟨_, _, rfl, fun n => .inl ⟨_, rfl, _, rfl, _, _, rfl, rfl, hm0, ?_⟩⟩
        exact k _ _ (Int.emod_nonneg _ (by omega)) (Int.emod_lt_of_pos _ hm0) kh1 ⟨cells, _, _, _, upd_same, by rw [upd_ne nch]; exact e2, nch, hi, hlen⟩
end
section
variable {P : Program} {w : World} {K : PySem.W.Frag} {mg : Str → Option Value} {base : Heap}
abbrev s_l_pick : Stmt := top 52
abbrev N_l_pick : List Str := ["_law_hand_here", "_law_things"]
theorem sc_l_pick : FnScope N_l_pick ["_law_hand_here", "_law_things"] (defScope s_l_pick) := ⟨rfl, rfl, rfl, by decide +kernel, rfl, by decide +kernel, by decide +kernel⟩
theorem ok_pick (T : Txt mg) (c_l_draw : Cl P w K mg base 2 "_law_draw" spDraw) (D : At K mg "_law_pick" s_l_pick ["_law_hand_here", "_law_things"]) : Cl P w K mg base 3 "_law_pick" (spPick K) := by
  refine cl_of D sc_l_pick (fun vs H Q E h => ?_) fun f cdv A outer s H vs Q E hr h => ?_
  · obtain ⟨h, c, a, xs, rfl, _⟩ := h
    rfl
  · obtain ⟨h, c, a, xs, rfl, hh, hx, hne, hlen, k⟩ := h
    have hpos : 0 < xs.length := List.length_pos_iff.mpr hne
    refine ⟨_, (pss_one (ps_ret (pe_ix ix_seq (pv 1) (pe_c c_l_draw hr (by decide) (by rfl) (pa_cons (pv 0) (pa_cons (pe_callB call_len_seq (by rfl) T.len (by decide +kernel) (pa_cons (pv 1) pa_nil)) pa_nil))) (fun _ _ => rfl)))), ?_⟩
    refine ⟨_, rfl, _, rfl, _, rfl, a, xs, rfl, ?_, h, c, _, rfl, hh, by omega, Int.lt_of_le_of_lt (show (xs.length : Int) ≤ 1000 by omega) (by decide), fun n H1 h0 h1 kh hh1 => ?_⟩
    · rcases hx with hx | hx
      · exact .inl hx.1
      · exact .inr hx
    · obtain ⟨j, rfl⟩ : ∃ j : Nat, n = (j : Int) := ⟨n.toNat, by omega⟩
      have hj : j < xs.length := by omega
      have hat : atI xs (j : Int) = some xs[j] := atI_nat (List.getElem?_eq_getElem hj)
      rcases hx with ⟨hx, hn⟩ | hx
      · refine .inl ⟨a, xs, _, _, rfl, rfl, ?_, hat, k _ _ (List.getElem_mem hj) kh hh1⟩
        rcases hx with (q | ⟨o, q⟩) | q
        · exact .inl (.inl (kh.st _ _ hn q))
        · exact .inl (.inr ⟨o, kh.st _ _ hn q⟩)
        · exact .inr q
      · exact .inr (.inl ⟨a, xs, _, _, rfl, rfl, kh.tup hx, hat, k _ _ (List.getElem_mem hj) kh hh1⟩)
end
end K32

/-! a for over a list or a tuple, as one -/
namespace Cm
open PySem L2 PySem.Spec PyProof.Rows
theorem for_seq {K : PySem.W.Frag} {tl : TE} {g : TG} {tb : TS} {D : Ends} {σ : L2.St} {H Hb : Hp} {a : Addr} {xs : List V} (ht : ∀ Q : VK, Q (.ref a) H → tl σ H Q) (ha : SqL K Hb a xs ∨ SqT K Hb a xs)
    (Pv : Nat → L2.St → Hp → Prop) (h0 : Pv 0 σ H) (hG : ∀ i σ H', Pv i σ H' → Same Hb H')
    (hs : ∀ i x σ H1, i < xs.length → Pv i σ H1 → xs[i]? = some x → g x σ H1 fun σ2 H2 => tb { D with nx := Pv (i + 1), ct := Pv (i + 1), bk := D.nx } σ2 H2) (hd : ∀ σ H1, Pv xs.length σ H1 → D.nx σ H1) :
    tFor (iSeq K tl) g tb D σ H := by
  refine ht _ ⟨a, rfl, ?_⟩
  rcases ha with ha | ha
  · refine .inl ⟨⟨_, (hG _ _ _ h0).seq ha⟩, for_it (walk_list (xs := xs)) Pv h0 (fun i σ H' hi z => (hG i σ H' z).seq ha) (fun i x σ H1 H2 hi z y => ?_) hd⟩
    obtain ⟨rfl, e⟩ := y
    exact hs i x σ _ hi z e
  · refine .inr ⟨⟨_, sqt_same (hG _ _ _ h0) ha⟩, for_it (walk_tup (xs := xs)) Pv h0 (fun i σ H' hi z => sqt_same (hG i σ H' z) ha) (fun i x σ H1 H2 hi z y => ?_) hd⟩
    obtain ⟨rfl, e⟩ := y
    exact hs i x σ _ hi z e
end Cm

/-! trees of forms: a head and its parts; how they lie in tuples -/
namespace Cm
open PySem L2 PySem.Spec PyProof.Rows
inductive Hd where
  | num (i : Int)
  | name (x : Str)
  | lit (w : Str)
  | one (w x : Str)
  | fn (xs : List Str)
  | bind (w : Str) (xs : List Str)
  | doo
  | call
  | op (o : Str)
  | plain (w : Str)
inductive Tr where
  | mk (h : Hd) (ps : List Tr)
def encs (xs : List Str) : PyData := .tuple (xs.map PyData.str)
def rowD (p : Str × PyData) : PyData := .tuple [.str p.1, p.2]
def encH : Hd → List PyData → PyData
  | .num i, _ => .tuple [.str "number", .int i]
  | .name x, _ => .tuple [.str "name", .str x]
  | .lit w, _ => .tuple [.str w]
  | .one w x, ds => .tuple (.str w :: .str x :: ds)
  | .fn xs, ds => .tuple (.str "fn" :: encs xs :: ds)
  | .bind w xs, ds => .tuple (.str w :: .tuple ((xs.zip ds).map rowD) :: ds.drop xs.length)
  | .doo, ds => .tuple [.str "do", .tuple ds]
  | .call, ds => .tuple (.str "call" :: (ds.take 1 ++ [.tuple (ds.drop 1)]))
  | .op o, ds => .tuple [.str "op", .str o, .tuple ds]
  | .plain w, ds => .tuple (.str w :: ds)
mutual
def Tr.enc : Tr → PyData
  | .mk h ps => encH h (Tr.encL ps)
def Tr.encL : List Tr → List PyData
  | [] => []
  | t :: ts => t.enc :: Tr.encL ts
end
mutual
def Tr.dep : Tr → Nat
  | .mk _ ps => Tr.deps ps + 1
def Tr.deps : List Tr → Nat
  | [] => 0
  | t :: ts => max t.dep (Tr.deps ts)
end
def litW : List Str := ["true", "false", "none", "ask"]
def oneW : List Str := ["set", "keep", "once", "take"]
def bindW : List Str := ["let", "rec"]
def plainW : List Str := ["if", "mark", "wind", "show"]
abbrev sok (x : Str) : Prop := PyData.strOk x = true
def hok : Hd → Nat → Prop
  | .num _, n => n = 0
  | .name x, n => n = 0 ∧ sok x
  | .lit w, n => n = 0 ∧ w ∈ litW
  | .one w x, n => n = 1 ∧ w ∈ oneW ∧ sok x
  | .fn xs, n => n = 1 ∧ xs.length ≤ 100 ∧ ∀ x ∈ xs, sok x
  | .bind w xs, n => n = xs.length + 1 ∧ w ∈ bindW ∧ ∀ x ∈ xs, sok x
  | .doo, _ => True
  | .call, n => 1 ≤ n
  | .op o, _ => sok o
  | .plain w, _ => w ∈ plainW
mutual
def Tr.ok : Tr → Prop
  | .mk h ps => hok h ps.length ∧ ps.length ≤ 11 ∧ Tr.oks ps
def Tr.oks : List Tr → Prop
  | [] => True
  | t :: ts => t.ok ∧ Tr.oks ts
end
theorem encL_map : ∀ ps : List Tr, Tr.encL ps = ps.map Tr.enc
  | [] => rfl
  | t :: ts => by
    show t.enc :: Tr.encL ts = _
    rw [encL_map ts]
    rfl
theorem encL_len (ps : List Tr) : (Tr.encL ps).length = ps.length := by rw [encL_map, List.length_map]
theorem deps_le {n : Nat} : ∀ {ps : List Tr}, Tr.deps ps ≤ n ↔ ∀ t ∈ ps, t.dep ≤ n
  | [] => by simp [Tr.deps]
  | t :: ts => by
    have := deps_le (n := n) (ps := ts)
    show max t.dep (Tr.deps ts) ≤ n ↔ _
    rw [Nat.max_le, this]
    simp
theorem oks_iff : ∀ {ps : List Tr}, Tr.oks ps ↔ ∀ t ∈ ps, t.ok
  | [] => by simp [Tr.oks]
  | t :: ts => by
    show t.ok ∧ Tr.oks ts ↔ _
    rw [oks_iff]
    simp
theorem dep_mk {h : Hd} {ps : List Tr} {n : Nat} : (Tr.mk h ps).dep ≤ n + 1 ↔ ∀ t ∈ ps, t.dep ≤ n := by
  show Tr.deps ps + 1 ≤ n + 1 ↔ _
  rw [← deps_le]
  omega
/-- trees by their depth -/
theorem tr_ind {P : Tr → Prop} (h : ∀ hd ps, (∀ t ∈ ps, P t) → P (.mk hd ps)) (t : Tr) : P t := by
  have key : ∀ n, ∀ t : Tr, t.dep ≤ n → P t := by
    intro n
    induction n with
    | zero =>
      intro t ht
      cases t with
      | mk hd ps => exact absurd ht (by show ¬ (Tr.deps ps + 1 ≤ 0); omega)
    | succ n ih =>
      intro t ht
      cases t with
      | mk hd ps => exact h hd ps fun t m => ih t (dep_mk.mp ht t m)
  exact key t.dep t (Nat.le_refl _)
theorem flat_strs (xs : List Str) : flatDs (xs.map PyData.str) = true := flatDs_of _ fun d hd => by
  obtain ⟨x, _, rfl⟩ := List.mem_map.mp hd
  rfl
theorem flat_encH {h : Hd} {ds : List PyData} (f : flatDs ds = true) : flatD (encH h ds) = true := by
  have fd := flatDs_all f
  cases h with
  | num i => rfl
  | name x => rfl
  | lit w => rfl
  | one w x => show flatDs (_ :: _ :: ds) = true; simpa [flatDs, flatD] using f
  | fn xs => show flatDs (_ :: encs xs :: ds) = true; simp [flatDs, flatD, encs, flat_strs, f]
  | bind w xs =>
    show flatDs (_ :: _ :: ds.drop xs.length) = true
    have h1 : flatDs (ds.drop xs.length) = true := flatDs_of _ fun d hd => fd d (List.mem_of_mem_drop hd)
    have h2 : flatDs ((xs.zip ds).map rowD) = true := flatDs_of _ fun d hd => by
      obtain ⟨p, hp, rfl⟩ := List.mem_map.mp hd
      have := fd p.2 (List.of_mem_zip (show (p.1, p.2) ∈ xs.zip ds from hp)).2
      simp [rowD, flatD, flatDs, this]
    simp [flatDs, flatD, h1, h2]
  | doo => show flatDs [_, .tuple ds] = true; simp [flatDs, flatD, f]
  | call =>
    show flatDs (_ :: (ds.take 1 ++ [.tuple (ds.drop 1)])) = true
    refine flatDs_of _ fun d hd => ?_
    rcases List.mem_cons.mp hd with rfl | hd
    · rfl
    rcases List.mem_append.mp hd with hd | hd
    · exact fd d (List.mem_of_mem_take hd)
    · cases List.mem_singleton.mp hd
      show flatDs (ds.drop 1) = true
      exact flatDs_of _ fun d hd => fd d (List.mem_of_mem_drop hd)
  | op o => show flatDs [_, _, .tuple ds] = true; simp [flatDs, flatD, f]
  | plain w => show flatDs (_ :: ds) = true; simpa [flatDs, flatD] using f
theorem flat_enc (t : Tr) : flatD t.enc = true := by
  refine tr_ind (P := fun t => flatD t.enc = true) (fun hd ps ih => ?_) t
  show flatD (encH hd (Tr.encL ps)) = true
  refine flat_encH (flatDs_of _ fun d hd => ?_)
  rw [encL_map] at hd
  obtain ⟨t, m, rfl⟩ := List.mem_map.mp hd
  exact ih t m
theorem flat_encL (ps : List Tr) : flatDs (Tr.encL ps) = true := flatDs_of _ fun d hd => by
  rw [encL_map] at hd
  obtain ⟨t, m, rfl⟩ := List.mem_map.mp hd
  exact flat_enc t
/-! ### that trees can be compared -/
theorem layAll_of : ∀ {ds : List PyData}, (∀ d ∈ ds, PyData.canLay0 d = true) → PyData.canLayAll0 ds = true
  | [], _ => rfl
  | d :: ds, h => by
    show (PyData.canLay0 d && PyData.canLayAll0 ds) = true
    rw [h d List.mem_cons_self, layAll_of fun x hx => h x (List.mem_cons_of_mem _ hx)]
    rfl
theorem depAll_le {n : Nat} : ∀ {ds : List PyData}, (∀ d ∈ ds, d.depth ≤ n) → PyData.depthAll ds ≤ n
  | [], _ => by simp [PyData.depthAll]
  | d :: ds, h => by
    have h1 := h d List.mem_cons_self
    have h2 := depAll_le (ds := ds) fun x hx => h x (List.mem_cons_of_mem _ hx)
    simp only [PyData.depthAll]
    omega
theorem lay_tup {ds : List PyData} (h : ∀ d ∈ ds, PyData.canLay0 d = true) : PyData.canLay0 (.tuple ds) = true := layAll_of h
theorem dep_tup {ds : List PyData} {n : Nat} (h : ∀ d ∈ ds, d.depth ≤ n) : PyData.depth (.tuple ds) ≤ n + 1 := by
  have := depAll_le h
  simp only [PyData.depth]
  omega
theorem dep0_str (x : Str) (n : Nat) : PyData.depth (.str x) ≤ n := by simp [PyData.depth]
theorem dep0_int (x : Int) (n : Nat) : PyData.depth (.int x) ≤ n := by simp [PyData.depth]
/-- a text that may stand in data, and how deep data is -/
structure Lay (n : Nat) (d : PyData) : Prop where
  lay : PyData.canLay0 d = true
  dep : d.depth ≤ n
theorem Lay.mono {n m : Nat} {d : PyData} (h : Lay n d) (k : n ≤ m) : Lay m d := ⟨h.lay, Nat.le_trans h.dep k⟩
theorem Lay.str {x : Str} (h : sok x) (n : Nat) : Lay n (.str x) := ⟨h, dep0_str x n⟩
theorem Lay.int (i : Int) (n : Nat) : Lay n (.int i) := ⟨rfl, dep0_int i n⟩
theorem Lay.tup {n : Nat} {ds : List PyData} (h : ∀ d ∈ ds, Lay n d) : Lay (n + 1) (.tuple ds) := ⟨lay_tup fun d m => (h d m).lay, dep_tup fun d m => (h d m).dep⟩
theorem Lay.lst {n : Nat} {ds : List PyData} (h : ∀ d ∈ ds, Lay n d) : Lay (n + 1) (.list ds) := by
  have h1 : PyData.canLay0 (.list ds) = true := layAll_of fun d m => (h d m).lay
  have h2 := depAll_le fun d m => (h d m).dep
  refine ⟨h1, ?_⟩
  simp only [PyData.depth]
  omega
theorem Lay.sh {n : Nat} {d : PyData} (h : Lay n d) (k : n ≤ 64) : SeqAt.shaped d = true := by
  unfold SeqAt.shaped
  rw [h.lay, decide_eq_true (Nat.le_trans h.dep k)]
  rfl
theorem words_sok : ∀ w ∈ litW ++ oneW ++ bindW ++ plainW, sok w := by
  intro w hw
  unfold litW oneW bindW plainW at hw
  simp only [List.cons_append, List.nil_append, List.mem_cons, List.not_mem_nil, or_false] at hw
  rcases hw with rfl | rfl | rfl | rfl | rfl | rfl | rfl | rfl | rfl | rfl | rfl | rfl | rfl | rfl <;> decide +kernel
theorem mem4 {α : Type} {P : α → Prop} {a b c d : α} (ha : P a) (hb : P b) (hc : P c) (hd : P d) : ∀ x ∈ [a, b, c, d], P x := by
  intro x hx
  simp only [List.mem_cons, List.not_mem_nil, or_false] at hx
  rcases hx with rfl | rfl | rfl | rfl <;> assumption
theorem lay_strs {xs : List Str} (h : ∀ x ∈ xs, sok x) (n : Nat) : Lay (n + 1) (encs xs) := Lay.tup fun d hd => by
  obtain ⟨x, m, rfl⟩ := List.mem_map.mp hd
  exact .str (h x m) n
theorem lay_encH {h : Hd} {ds : List PyData} {n : Nat} (o : hok h ds.length) (f : ∀ d ∈ ds, Lay n d) : Lay (n + 3) (encH h ds) := by
  have up : ∀ d ∈ ds, Lay (n + 2) d := fun d m => (f d m).mono (by omega)
  have hw : ∀ w, (w ∈ litW ∨ w ∈ oneW ∨ w ∈ bindW ∨ w ∈ plainW) → Lay (n + 2) (.str w) := fun w m => .str (words_sok w (by
    simp only [List.mem_append]
    rcases m with m | m | m | m
    · exact .inl (.inl (.inl m))
    · exact .inl (.inl (.inr m))
    · exact .inl (.inr m)
    · exact .inr m)) _
  have c : ∀ {d : PyData} {ds : List PyData}, Lay (n + 2) d → (∀ e ∈ ds, Lay (n + 2) e) → ∀ e ∈ d :: ds, Lay (n + 2) e := fun a b e m => by
    rcases List.mem_cons.mp m with rfl | m
    · exact a
    · exact b e m
  have nil : ∀ e ∈ ([] : List PyData), Lay (n + 2) e := fun e m => by cases m
  have S : ∀ w : Str, sok w → Lay (n + 2) (.str w) := fun w h => .str h _
  cases h with
  | num i => exact .tup (c (S "number" (by decide +kernel)) (c (.int i _) nil))
  | name x => exact .tup (c (S "name" (by decide +kernel)) (c (S x o.2) nil))
  | lit w => exact .tup (c (hw w (.inl o.2)) nil)
  | one w x => exact .tup (c (hw w (.inr (.inl o.2.1))) (c (S x o.2.2) up))
  | fn xs => exact .tup (c (S "fn" (by decide +kernel)) (c (lay_strs o.2.2 (n + 1)) up))
  | bind w xs =>
    refine .tup (c (hw w (.inr (.inr (.inl o.2.1)))) (c (Lay.tup fun d hd => ?_) fun d hd => up d (List.mem_of_mem_drop hd)))
    obtain ⟨p, hp, rfl⟩ := List.mem_map.mp hd
    have hz := List.of_mem_zip (show (p.1, p.2) ∈ xs.zip ds from hp)
    refine Lay.tup fun d hd => ?_
    simp only [List.mem_cons, List.not_mem_nil, or_false] at hd
    rcases hd with rfl | rfl
    · exact .str (o.2.2 _ hz.1) _
    · exact f _ hz.2
  | doo => exact .tup (c (S "do" (by decide +kernel)) (c (Lay.tup (fun d m => (f d m).mono (by omega))) nil))
  | call =>
    refine .tup (c (S "call" (by decide +kernel)) fun d hd => ?_)
    rcases List.mem_append.mp hd with hd | hd
    · exact up d (List.mem_of_mem_take hd)
    · cases List.mem_singleton.mp hd
      exact Lay.tup fun d m => (f d (List.mem_of_mem_drop m)).mono (by omega)
  | op o' => exact .tup (c (S "op" (by decide +kernel)) (c (S o' o) (c (Lay.tup (fun d m => (f d m).mono (by omega))) nil)))
  | plain w => exact .tup (c (hw w (.inr (.inr (.inr o)))) up)
theorem lay_enc : ∀ (n : Nat) (t : Tr), t.ok → t.dep ≤ n → Lay (3 * n) t.enc := by
  intro n
  induction n with
  | zero =>
    intro t _ h
    cases t with
    | mk hd ps => exact absurd h (by show ¬ (Tr.deps ps + 1 ≤ 0); omega)
  | succ n ih =>
    intro t o h
    cases t with
    | mk hd ps =>
      have o' : hok hd ps.length ∧ ps.length ≤ 11 ∧ Tr.oks ps := o
      have : Lay (3 * n + 3) (encH hd (Tr.encL ps)) := lay_encH (by rw [encL_len]; exact o'.1) fun d hd => by
        rw [encL_map] at hd
        obtain ⟨t, m, rfl⟩ := List.mem_map.mp hd
        exact ih t (oks_iff.mp o'.2.2 t m) (dep_mk.mp h t m)
      exact this
end Cm

/-! x in (written words); the items of a tree's tuple -/
namespace Cm
open PySem L2 PySem.Spec PyProof.Rows
/-- written texts -/
inductive StrEs : List Expr → List Str → Prop where
  | nil : StrEs [] []
  | cons {x : Str} {k : Nat} {p : Pos} {es : List Expr} {xs : List Str} (h : StrEs es xs) : StrEs (.Constant (.str x) k p :: es) (x :: xs)
def tVals (vs : List V) : TA := fun _ H Q => Q vs H
section
variable {X : Cx} {e : Expr} {te : TE} {es : List Expr} {ws : List Str} {pos p2 : Pos} {n : Nat}
theorem pa_strs (h : StrEs es ws) : PA X es (tVals (ws.map V.str)) := by
  induction h with
  | nil => exact ⟨fun pos pins s σ H Q I h => pa_nil.run pos pins s σ H Q I h⟩
  | @cons x k p es xs h ih =>
    refine ⟨fun pos pins s σ H Q I q => (pa_cons (te := tC (.str x)) pe_str ih (by rfl)).run pos pins s σ H Q I ?_⟩
    exact q
/-- x in ('a', 'b', ..) -/
def tInW (te : TE) (ws : List Str) : TT := fun σ H Q => te σ H fun x H1 => flatV x = true ∧ ∀ H2, Same H1 H2 → Q (inV x (ws.map V.str)) H2
theorem flat_strV (ws : List Str) : (ws.map V.str).all flatV = true := by
  rw [List.all_eq_true]
  intro x hx
  obtain ⟨w, _, rfl⟩ := List.mem_map.mp hx
  rfl
theorem pt_inW (ha : PE X e te) (he : StrEs es ws) (hl : ws.length ≤ sizeLine) (hm : behindInMarks .In (.Tuple es n p2) = false) : PT X (.Compare e [.In] [.Tuple es n p2] pos) (tInW te ws) := by
  refine ⟨fun pins s σ H Q I h => ?_⟩
  refine wpAny_isTrue_Compare1 (thn (ha.run pins s σ H _ I h) fun v s1 ⟨x, H1, I1, r1, fx, q1⟩ => thn ((pe_tup (pa_strs he)).run pins s1 σ H1 (fun y H2 => y ≠ .non ∧ ∃ p, y = .ref p ∧ H2 p = some (.tup (ws.map V.str)) ∧ Same H1 H2) I1 ?_) fun u s2 ⟨y, H2, I2, r2, _, p, ey, hp, s12⟩ =>
    thn (op_in_seq pins s2 σ H2 x y v u (fun z H3 => ∃ k, z = .bl k ∧ Q k H3) I2 r1 r2 ⟨p, _, ey, .inr (.inl (.inl hp)), fx, flat_strV ws, _, rfl, q1 H2 s12⟩) fun c s3 ⟨z, H3, I3, r3, k, e, q3⟩ => ?_) hm
  · refine ⟨by rw [List.length_map]; exact hl, fun p hp => ⟨(fun z => nomatch z), p, rfl, upd_same, same_new hp⟩⟩
  · subst e
    cases r3
    exact wpAny_truthy_bool ⟨H3, I3, q3⟩
end
/-- x in ('a', ..) as a value -/
def tInWV (te : TE) (ws : List Str) : TE := fun σ H Q => te σ H fun x H1 => flatV x = true ∧ ∀ H2, Same H1 H2 → Q (.bl (inV x (ws.map V.str))) H2
section
variable {X : Cx} {e : Expr} {te : TE} {es : List Expr} {ws : List Str} {pos p2 : Pos} {n : Nat}
theorem pe_inW (ha : PE X e te) (he : StrEs es ws) (hl : ws.length ≤ sizeLine) (hm : behindInMarks .In (.Tuple es n p2) = false) : PE X (.Compare e [.In] [.Tuple es n p2] pos) (tInWV te ws) := by
  refine ⟨fun pins s σ H Q I h => ?_⟩
  refine wpAny_Compare1 (thn (ha.run pins s σ H _ I h) fun v s1 ⟨x, H1, I1, r1, fx, q1⟩ => thn ((pe_tup (pa_strs he)).run pins s1 σ H1 (fun y H2 => ∃ p, y = .ref p ∧ H2 p = some (.tup (ws.map V.str)) ∧ Same H1 H2) I1 ?_) fun u s2 ⟨y, H2, I2, r2, p, ey, hp, s12⟩ =>
    op_in_seq pins s2 σ H2 x y v u Q I2 r1 r2 ⟨p, _, ey, .inr (.inl (.inl hp)), fx, flat_strV ws, q1 H2 s12⟩) hm
  exact ⟨by rw [List.length_map]; exact hl, fun p hp => ⟨p, rfl, upd_same, same_new hp⟩⟩
end
/-! ### the items of a tree's tuple -/
def wd : Hd → Str
  | .num _ => "number"
  | .name _ => "name"
  | .lit w => w
  | .one w _ => w
  | .fn _ => "fn"
  | .bind w _ => w
  | .doo => "do"
  | .call => "call"
  | .op _ => "op"
  | .plain w => w
def Items (K : PySem.W.Frag) (H : Hp) (ds : List PyData) : Hd → List V → Prop
  | .num i, its => its = [.str "number", .int i]
  | .name x, its => its = [.str "name", .str x]
  | .lit w, its => its = [.str w]
  | .one w x, its => ∃ vs, its = .str w :: .str x :: vs ∧ DpAll K H vs ds
  | .fn xs, its => ∃ q vs, its = .str "fn" :: .ref q :: vs ∧ SqT K H q (xs.map V.str) ∧ DpAll K H vs ds
  | .bind w xs, its => ∃ q rows vs, its = .str w :: .ref q :: vs ∧ SqT K H q rows ∧ DpAll K H rows ((xs.zip ds).map rowD) ∧ DpAll K H vs (ds.drop xs.length)
  | .doo, its => ∃ q vs, its = [.str "do", .ref q] ∧ SqT K H q vs ∧ DpAll K H vs ds
  | .call, its => ∃ q us vs, its = .str "call" :: (us ++ [.ref q]) ∧ DpAll K H us (ds.take 1) ∧ SqT K H q vs ∧ DpAll K H vs (ds.drop 1)
  | .op o, its => ∃ q vs, its = [.str "op", .str o, .ref q] ∧ SqT K H q vs ∧ DpAll K H vs ds
  | .plain w, its => ∃ vs, its = .str w :: vs ∧ DpAll K H vs ds
theorem dp_str {K : PySem.W.Frag} {H : Hp} {v : V} {x : Str} (h : Dp K H v (.str x)) : v = .str x := by cases h; rfl
theorem dp_int {K : PySem.W.Frag} {H : Hp} {v : V} {x : Int} (h : Dp K H v (.int x)) : v = .int x := by cases h; rfl
theorem dp_tup {K : PySem.W.Frag} {H : Hp} {v : V} {ds : List PyData} (h : Dp K H v (.tuple ds)) : ∃ a its, v = .ref a ∧ SqT K H a its ∧ DpAll K H its ds := by
  cases h with
  | @tup a its ds hs ha => exact ⟨a, its, rfl, hs, ha⟩
theorem dpAll_strs_inv {K : PySem.W.Frag} {H : Hp} : ∀ {xs : List Str} {vs : List V}, DpAll K H vs (xs.map PyData.str) → vs = xs.map V.str
  | [], _, h => by cases h; rfl
  | x :: xs, _, h => by
    cases h with
    | cons h1 h2 => rw [dp_str h1, dpAll_strs_inv h2]; rfl
theorem dpAll_strs {K : PySem.W.Frag} {H : Hp} : ∀ xs : List Str, DpAll K H (xs.map V.str) (xs.map PyData.str)
  | [] => .nil
  | x :: xs => .cons (.str x) (dpAll_strs xs)
theorem dpAll_split {K : PySem.W.Frag} {H : Hp} : ∀ {ds es : List PyData} {vs : List V}, DpAll K H vs (ds ++ es) → ∃ us ws, vs = us ++ ws ∧ DpAll K H us ds ∧ DpAll K H ws es
  | [], es, vs, h => ⟨[], vs, rfl, .nil, h⟩
  | d :: ds, es, vs, h => by
    cases h with
    | cons h1 h2 =>
      obtain ⟨us, ws, rfl, a, b⟩ := dpAll_split h2
      exact ⟨_ :: us, ws, rfl, .cons h1 a, b⟩
theorem view {K : PySem.W.Frag} {H : Hp} {v : V} {h : Hd} {ds : List PyData} (x : Dp K H v (encH h ds)) : ∃ a its, v = .ref a ∧ SqT K H a its ∧ Items K H ds h its := by
  cases h with
  | num i =>
    obtain ⟨a, its, rfl, hs, ha⟩ := dp_tup x
    cases ha with
    | cons h1 h2 => cases h2 with
      | cons h3 h4 =>
        cases h4
        exact ⟨a, _, rfl, hs, by rw [dp_str h1, dp_int h3]; rfl⟩
  | name i =>
    obtain ⟨a, its, rfl, hs, ha⟩ := dp_tup x
    cases ha with
    | cons h1 h2 => cases h2 with
      | cons h3 h4 =>
        cases h4
        exact ⟨a, _, rfl, hs, by rw [dp_str h1, dp_str h3]; rfl⟩
  | lit i =>
    obtain ⟨a, its, rfl, hs, ha⟩ := dp_tup x
    cases ha with
    | cons h1 h2 =>
      cases h2
      exact ⟨a, _, rfl, hs, by rw [dp_str h1]; rfl⟩
  | one w i =>
    obtain ⟨a, its, rfl, hs, ha⟩ := dp_tup x
    cases ha with
    | cons h1 h2 => cases h2 with
      | cons h3 h4 => exact ⟨a, _, rfl, hs, _, by rw [dp_str h1, dp_str h3], h4⟩
  | fn xs =>
    obtain ⟨a, its, rfl, hs, ha⟩ := dp_tup x
    cases ha with
    | cons h1 h2 => cases h2 with
      | cons h3 h4 =>
        obtain ⟨q, vs, rfl, hq, hv⟩ := dp_tup h3
        rw [dpAll_strs_inv hv] at hq
        exact ⟨a, _, rfl, hs, q, _, by rw [dp_str h1], hq, h4⟩
  | bind w xs =>
    obtain ⟨a, its, rfl, hs, ha⟩ := dp_tup x
    cases ha with
    | cons h1 h2 => cases h2 with
      | cons h3 h4 =>
        obtain ⟨q, vs, rfl, hq, hv⟩ := dp_tup h3
        exact ⟨a, _, rfl, hs, q, vs, _, by rw [dp_str h1], hq, hv, h4⟩
  | doo =>
    obtain ⟨a, its, rfl, hs, ha⟩ := dp_tup x
    cases ha with
    | cons h1 h2 => cases h2 with
      | cons h3 h4 =>
        cases h4
        obtain ⟨q, vs, rfl, hq, hv⟩ := dp_tup h3
        exact ⟨a, _, rfl, hs, q, vs, by rw [dp_str h1], hq, hv⟩
  | call =>
    obtain ⟨a, its, rfl, hs, ha⟩ := dp_tup x
    cases ha with
    | cons h1 h2 =>
      obtain ⟨us, ws, rfl, h3, h4⟩ := dpAll_split h2
      cases h4 with
      | cons h5 h6 =>
        cases h6
        obtain ⟨q, vs, rfl, hq, hv⟩ := dp_tup h5
        exact ⟨a, _, rfl, hs, q, us, vs, by rw [dp_str h1], h3, hq, hv⟩
  | op o =>
    obtain ⟨a, its, rfl, hs, ha⟩ := dp_tup x
    cases ha with
    | cons h1 h2 => cases h2 with
      | cons h3 h4 => cases h4 with
        | cons h5 h6 =>
          cases h6
          obtain ⟨q, vs, rfl, hq, hv⟩ := dp_tup h5
          exact ⟨a, _, rfl, hs, q, vs, by rw [dp_str h1, dp_str h3], hq, hv⟩
  | plain w =>
    obtain ⟨a, its, rfl, hs, ha⟩ := dp_tup x
    cases ha with
    | cons h1 h2 => exact ⟨a, _, rfl, hs, _, by rw [dp_str h1], h2⟩
theorem unview {K : PySem.W.Frag} {H : Hp} {a : Addr} {its : List V} {h : Hd} {ds : List PyData} (hs : SqT K H a its) (x : Items K H ds h its) : Dp K H (.ref a) (encH h ds) := by
  cases h with
  | num i => obtain rfl := (show its = _ from x); exact .tup hs (.cons (.str _) (.cons (.int _) .nil))
  | name i => obtain rfl := (show its = _ from x); exact .tup hs (.cons (.str _) (.cons (.str _) .nil))
  | lit i => obtain rfl := (show its = _ from x); exact .tup hs (.cons (.str _) .nil)
  | one w i => obtain ⟨vs, rfl, hv⟩ := x; exact .tup hs (.cons (.str _) (.cons (.str _) hv))
  | fn xs => obtain ⟨q, vs, rfl, hq, hv⟩ := x; exact .tup hs (.cons (.str _) (.cons (.tup hq (dpAll_strs xs)) hv))
  | bind w xs => obtain ⟨q, rows, vs, rfl, hq, hr, hv⟩ := x; exact .tup hs (.cons (.str _) (.cons (.tup hq hr) hv))
  | doo => obtain ⟨q, vs, rfl, hq, hv⟩ := x; exact .tup hs (.cons (.str _) (.cons (.tup hq hv) .nil))
  | call => obtain ⟨q, us, vs, rfl, hu, hq, hv⟩ := x; exact .tup hs (.cons (.str _) (DpAll.app hu (.cons (.tup hq hv) .nil)))
  | op o => obtain ⟨q, vs, rfl, hq, hv⟩ := x; exact .tup hs (.cons (.str _) (.cons (.str _) (.cons (.tup hq hv) .nil)))
  | plain w => obtain ⟨vs, rfl, hv⟩ := x; exact .tup hs (.cons (.str _) hv)
theorem Items.head {K : PySem.W.Frag} {H : Hp} {h : Hd} {ds : List PyData} {its : List V} (x : Items K H ds h its) : atI its 0 = some (.str (wd h)) := by
  refine atI_nat (j := 0) ?_
  cases h with
  | num i => obtain rfl := (show its = _ from x); rfl
  | name i => obtain rfl := (show its = _ from x); rfl
  | lit i => obtain rfl := (show its = _ from x); rfl
  | one w i => obtain ⟨vs, rfl, _⟩ := x; rfl
  | fn xs => obtain ⟨q, vs, rfl, _⟩ := x; rfl
  | bind w xs => obtain ⟨q, rows, vs, rfl, _⟩ := x; rfl
  | doo => obtain ⟨q, vs, rfl, _⟩ := x; rfl
  | call => obtain ⟨q, us, vs, rfl, _⟩ := x; rfl
  | op o => obtain ⟨q, vs, rfl, _⟩ := x; rfl
  | plain w => obtain ⟨vs, rfl, _⟩ := x; rfl
theorem Items.same {K : PySem.W.Frag} {H H' : Hp} {h : Hd} {ds : List PyData} {its : List V} (x : Items K H ds h its) (s : Same H H') : Items K H' ds h its := by
  cases h with
  | num i => exact x
  | name i => exact x
  | lit i => exact x
  | one w i => obtain ⟨vs, e, hv⟩ := x; exact ⟨vs, e, dps_same s _ _ hv⟩
  | fn xs => obtain ⟨q, vs, e, hq, hv⟩ := x; exact ⟨q, vs, e, sqt_same s hq, dps_same s _ _ hv⟩
  | bind w xs => obtain ⟨q, rows, vs, e, hq, hr, hv⟩ := x; exact ⟨q, rows, vs, e, sqt_same s hq, dps_same s _ _ hr, dps_same s _ _ hv⟩
  | doo => obtain ⟨q, vs, e, hq, hv⟩ := x; exact ⟨q, vs, e, sqt_same s hq, dps_same s _ _ hv⟩
  | call => obtain ⟨q, us, vs, e, hu, hq, hv⟩ := x; exact ⟨q, us, vs, e, dps_same s _ _ hu, sqt_same s hq, dps_same s _ _ hv⟩
  | op o => obtain ⟨q, vs, e, hq, hv⟩ := x; exact ⟨q, vs, e, sqt_same s hq, dps_same s _ _ hv⟩
  | plain w => obtain ⟨vs, e, hv⟩ := x; exact ⟨vs, e, dps_same s _ _ hv⟩
/-! ### what the word of a head is -/
def kd : Hd → Nat
  | .num _ => 0
  | .name _ => 1
  | .lit _ => 2
  | .one _ _ => 3
  | .fn _ => 4
  | .bind _ _ => 5
  | .doo => 6
  | .call => 7
  | .op _ => 8
  | .plain _ => 9
def wordsOf : Nat → List Str
  | 0 => ["number"]
  | 1 => ["name"]
  | 2 => litW
  | 3 => oneW
  | 4 => ["fn"]
  | 5 => bindW
  | 6 => ["do"]
  | 7 => ["call"]
  | 8 => ["op"]
  | _ => plainW
theorem wd_mem {h : Hd} {n : Nat} (o : hok h n) : kd h < 10 ∧ wd h ∈ wordsOf (kd h) := by
  cases h with
  | num i => exact ⟨Nat.le_of_ble_eq_true rfl, List.mem_singleton.mpr rfl⟩
  | name i => exact ⟨Nat.le_of_ble_eq_true rfl, List.mem_singleton.mpr rfl⟩
  | lit w => exact ⟨Nat.le_of_ble_eq_true rfl, o.2⟩
  | one w x => exact ⟨Nat.le_of_ble_eq_true rfl, o.2.1⟩
  | fn xs => exact ⟨Nat.le_of_ble_eq_true rfl, List.mem_singleton.mpr rfl⟩
  | bind w xs => exact ⟨Nat.le_of_ble_eq_true rfl, o.2.1⟩
  | doo => exact ⟨Nat.le_of_ble_eq_true rfl, List.mem_singleton.mpr rfl⟩
  | call => exact ⟨Nat.le_of_ble_eq_true rfl, List.mem_singleton.mpr rfl⟩
  | op i => exact ⟨Nat.le_of_ble_eq_true rfl, List.mem_singleton.mpr rfl⟩
  | plain w => exact ⟨Nat.le_of_ble_eq_true rfl, o⟩
/-- what is asked of the word alone -/
theorem by_kind (p : Str → Bool) (k : Nat → Bool) (hc : ∀ c < 10, ∀ w ∈ wordsOf c, p w = k c) {h : Hd} {n : Nat} (o : hok h n) : p (wd h) = k (kd h) :=
  hc _ (wd_mem o).1 _ (wd_mem o).2
def kF (h : Hd) : Bool := kd h == 3 || kd h == 4
def kB (h : Hd) : Bool := kd h == 5
def kP (h : Hd) : Bool := kd h == 9
def kL (h : Hd) : Bool := kd h < 3
def isDo (h : Hd) : Bool := kd h == 6
def isCall (h : Hd) : Bool := kd h == 7
def isOp (h : Hd) : Bool := kd h == 8
theorem in_words {ws : List Str} {x : Str} : inV (.str x) (ws.map V.str) = decide (x ∈ ws) := by
  induction ws with
  | nil => rfl
  | cons w ws ih =>
    show (eqV (V.str w) (V.str x) || inV (.str x) (ws.map V.str)) = _
    rw [ih]
    have e : eqV (V.str w) (V.str x) = decide (x = w) := by
      show (w == x) = _
      by_cases q : x = w
      · rw [q]; simp
      · have : ¬ w = x := fun z => q z.symm
        simp [q, this]
    rw [e]
    by_cases q : x = w <;> simp [q]
section
variable {h : Hd} {n : Nat}
theorem in_F (o : hok h n) : inV (.str (wd h)) ((["fn", "set", "keep", "once", "take"] : List Str).map V.str) = kF h :=
  by_kind (fun w => inV (.str w) ((["fn", "set", "keep", "once", "take"] : List Str).map V.str)) (fun k => k == 3 || k == 4) (by decide +kernel) o
theorem in_B (o : hok h n) : inV (.str (wd h)) ((["let", "rec"] : List Str).map V.str) = kB h :=
  by_kind (fun w => inV (.str w) ((["let", "rec"] : List Str).map V.str)) (fun k => k == 5) (by decide +kernel) o
theorem in_P (o : hok h n) : inV (.str (wd h)) ((["if", "mark", "wind", "show"] : List Str).map V.str) = kP h :=
  by_kind (fun w => inV (.str w) ((["if", "mark", "wind", "show"] : List Str).map V.str)) (fun k => k == 9) (by decide +kernel) o
theorem in_L (o : hok h n) : inV (.str (wd h)) ((["number", "true", "false", "none", "name", "ask"] : List Str).map V.str) = kL h :=
  by_kind (fun w => inV (.str w) ((["number", "true", "false", "none", "name", "ask"] : List Str).map V.str)) (fun k => k < 3) (by decide +kernel) o
theorem eq_do (o : hok h n) : decide (V.str (wd h) = V.str "do") = isDo h := by
  rw [decS]
  exact by_kind (fun w => decide (w = "do")) (fun k => k == 6) (by decide +kernel) o
theorem eq_call (o : hok h n) : decide (V.str (wd h) = V.str "call") = isCall h := by
  rw [decS]
  exact by_kind (fun w => decide (w = "call")) (fun k => k == 7) (by decide +kernel) o
theorem eq_op (o : hok h n) : decide (V.str (wd h) = V.str "op") = isOp h := by
  rw [decS]
  exact by_kind (fun w => decide (w = "op")) (fun k => k == 8) (by decide +kernel) o
end
end Cm

/-! slices and sums of tuples whichever object they are; rules with K said -/
namespace Cm
open PySem L2 PySem.Spec PyProof.Rows
theorem cut_from {xs : List V} {k : Nat} (h : k ≤ xs.length) : cutV xs (some (k : Int)) Option.none = xs.drop k := by
  unfold cutV
  rw [HT.sIx_nat, HT.sIx_none, Nat.min_eq_left h]
  exact List.take_of_length_le (by rw [List.length_drop]; omega)
theorem cut_to {xs : List V} {k : Nat} (h : k ≤ xs.length) : cutV xs Option.none (some (k : Int)) = xs.take k := by
  unfold cutV
  rw [HT.sIx_nat, HT.sIx_none, Nat.min_eq_left h, List.drop_zero, Nat.sub_zero]
/-- t[k:] of a tuple: whichever object it is -/
theorem sl_from {K : PySem.W.Frag} {a : Addr} {xs : List V} {k : Nat} {σ : L2.St} {H : Hp} {Q : VK} (hs : SqT K H a xs) (hk : k ≤ xs.length) (h : ∀ t H', Same H H' → SqT K H' t (xs.drop k) → Q (.ref t) H') :
    (tNoPart σ H fun u H1 => rSlA K (.ref a) (some (k : Int)) u H1 Q) := by
  refine ⟨a, xs, rfl, hs, fun q => ?_, fun _ p hp => ?_⟩
  · rw [HT.sIx_nat, Nat.min_eq_left hk] at q
    have : k = 0 := q.1
    subst this
    exact h a H (Same.refl H) hs
  · rw [cut_from hk]
    exact h p _ (same_new hp) (.inl (.inl upd_same))
theorem sl_to {K : PySem.W.Frag} {a : Addr} {xs : List V} {k : Nat} {H : Hp} {Q : VK} (hs : SqT K H a xs) (hk : k ≤ xs.length) (h : ∀ t H', Same H H' → SqT K H' t (xs.take k) → Q (.ref t) H') :
    rSlA K (.ref a) Option.none (some (k : Int)) H Q := by
  refine ⟨a, xs, rfl, hs, fun q => ?_, fun _ p hp => ?_⟩
  · rw [HT.sIx_nat, Nat.min_eq_left hk] at q
    have e : xs.take k = xs := List.take_of_length_le (by rw [q.2]; exact Nat.le_refl _)
    refine h a H (Same.refl H) ?_
    rw [e]
    exact hs
  · rw [cut_to hk]
    exact h p _ (same_new hp) (.inl (.inl upd_same))
theorem cat_any {K : PySem.W.Frag} {a b : Addr} {xs ys : List V} {H : Hp} {Q : VK} (ha : SqT K H a xs) (hb : SqT K H b ys) (hl : xs.length + ys.length ≤ sizeLine)
    (h : ∀ t H', Same H H' → SqT K H' t (xs ++ ys) → Q (.ref t) H') : rCatA K (.ref a) (.ref b) H Q := by
  refine ⟨a, b, xs, ys, rfl, rfl, ha, hb, hl, fun e => ?_, fun _ e => ?_, fun _ _ p hp => h p _ (same_new hp) (.inl (.inl upd_same))⟩
  · exact h b H (Same.refl H) (by rw [e]; exact hb)
  · exact h a H (Same.refl H) (by rw [e, List.append_nil]; exact ha)
theorem range_map {α β : Type} (f : α → β) (l : List α) : (List.range l.length).filterMap (fun i => (l[i]?).map f) = l.map f := by
  induction l with
  | nil => rfl
  | cons a l ih =>
    rw [List.length_cons, List.range_succ_eq_map, List.filterMap_cons]
    simp only [List.getElem?_cons_zero, Option.map_some, List.filterMap_map]
    rw [List.map_cons, ← ih]
    congr 1
theorem ke_tupleOf {X : Cx} {K : PySem.W.Frag} {a : Expr} {ta : TE} {p pos : Pos} (hg : Gl X "tuple") (hm : X.mg "tuple" = none) (ha : PE X a ta) (h : X.K = K := by rfl) (na : starEach [a] X.env = (false, eval a X.env) :: starEach [] X.env := by rfl) :
    PE X (.Call (.Name "tuple" p) [a] [] pos) (tThen ta (kTup K)) := by
  subst h
  exact pe_tupleOf hg hm ha na
theorem ne_same' {d : PyData} (h : SeqAt.shaped d = true) : (!PyData.eqv d d) = false := by
  rw [SeqAt.eqv_refl d (SeqAt.canLay_of_shaped h)]
  rfl
theorem kc_isi {X : Cx} {K : PySem.W.Frag} (h : X.K = K := by rfl) : CallR X (.builtin "isinstance") (rIsi K) := by subst h; exact call_isi
theorem one_of {α : Type} {xs : List α} (h : xs.length = 1) : ∃ x, xs = [x] := by
  cases xs with
  | nil => simp at h
  | cons a r =>
    cases r with
    | nil => exact ⟨a, rfl⟩
    | cons b r => simp at h
theorem dpAll_one {K : PySem.W.Frag} {H : Hp} {vs : List V} {d : PyData} (h : DpAll K H vs [d]) : ∃ v, vs = [v] ∧ Dp K H v d := by
  cases h with
  | cons h1 h2 =>
    cases h2
    exact ⟨_, rfl, h1⟩
theorem dps_cat {K : PySem.W.Frag} {H : Hp} {ds es : List PyData} {vs us : List V} (h1 : DpAll K H vs ds) (h2 : DpAll K H us es) : DpAll K H (vs ++ us) (ds ++ es) := DpAll.app h1 h2
theorem free_of {H H' : Hp} {p : Addr} (s : Same H H') (h : H' p = Option.none) : H p = Option.none := by
  cases e : H p with
  | none => rfl
  | some o =>
    have := s _ _ e
    rw [h] at this
    cases this
end Cm

/-! paths of trees -/
namespace Cm
open PySem L2 PySem.Spec PyProof.Rows
def Tr.hd : Tr → Hd
  | .mk h _ => h
def Tr.ps : Tr → List Tr
  | .mk _ ps => ps
def Tr.at : List Int → Tr → Option Tr
  | [], t => some t
  | i :: r, .mk _ ps => if 0 ≤ i then (ps[i.toNat]?).bind (Tr.at r) else none
def Tr.put : List Int → Tr → Tr → Tr
  | [], _, o => o
  | i :: r, .mk h ps, o => match ps[i.toNat]? with
    | some p => .mk h (ps.set i.toNat (Tr.put r p o))
    | none => .mk h ps
mutual
def Tr.paths : Tr → List (List Int)
  | .mk _ ps => [] :: Tr.pathsL 0 ps
def Tr.pathsL : Nat → List Tr → List (List Int)
  | _, [] => []
  | i, t :: ts => t.paths.map (fun p => ((i : Nat) : Int) :: p) ++ Tr.pathsL (i + 1) ts
end
mutual
def Tr.size : Tr → Nat
  | .mk _ ps => Tr.sizes ps + 1
def Tr.sizes : List Tr → Nat
  | [] => 0
  | t :: ts => t.size + Tr.sizes ts
end
theorem at_snoc : ∀ (p : List Int) (i : Int) (t : Tr), Tr.at (p ++ [i]) t = (Tr.at p t).bind (Tr.at [i])
  | [], i, t => rfl
  | j :: r, i, .mk h ps => by
    show (if 0 ≤ j then (ps[j.toNat]?).bind (Tr.at (r ++ [i])) else none) = ((if 0 ≤ j then (ps[j.toNat]?).bind (Tr.at r) else none) : Option Tr).bind (Tr.at [i])
    by_cases q : 0 ≤ j
    · rw [if_pos q, if_pos q]
      cases ps[j.toNat]? with
      | none => rfl
      | some p => exact at_snoc r i p
    · rw [if_neg q, if_neg q]
      rfl
theorem at_one {i : Nat} {h : Hd} {ps : List Tr} : Tr.at [((i : Nat) : Int)] (.mk h ps) = ps[i]? := by
  show (if 0 ≤ ((i : Nat) : Int) then (ps[((i : Nat) : Int).toNat]?).bind (Tr.at []) else none) = _
  rw [if_pos (by omega), Int.toNat_natCast]
  cases ps[i]? <;> rfl
theorem at_ok : ∀ (p : List Int) {t s : Tr}, t.ok → Tr.at p t = some s → s.ok
  | [], t, s, o, e => by cases e; exact o
  | i :: r, .mk h ps, s, o, e => by
    have e' : (if 0 ≤ i then (ps[i.toNat]?).bind (Tr.at r) else none) = some s := e
    by_cases q : 0 ≤ i
    · rw [if_pos q] at e'
      cases hp : ps[i.toNat]? with
      | none => rw [hp] at e'; cases e'
      | some p =>
        rw [hp] at e'
        have o' : hok h ps.length ∧ ps.length ≤ 11 ∧ Tr.oks ps := o
        exact at_ok r (oks_iff.mp o'.2.2 p (List.mem_of_getElem? hp)) e'
    · rw [if_neg q] at e'
      cases e'
theorem at_dep : ∀ (p : List Int) {t s : Tr}, Tr.at p t = some s → s.dep + p.length ≤ t.dep
  | [], t, s, e => by cases e; exact Nat.le_refl _
  | i :: r, .mk h ps, s, e => by
    have e' : (if 0 ≤ i then (ps[i.toNat]?).bind (Tr.at r) else none) = some s := e
    by_cases q : 0 ≤ i
    · rw [if_pos q] at e'
      cases hp : ps[i.toNat]? with
      | none => rw [hp] at e'; cases e'
      | some p =>
        rw [hp] at e'
        have h1 := at_dep r (t := p) e'
        have h2 := deps_le.mp (Nat.le_refl (Tr.deps ps)) p (List.mem_of_getElem? hp)
        show s.dep + (r.length + 1) ≤ Tr.deps ps + 1
        omega
    · rw [if_neg q] at e'
      cases e'
theorem pathsL_snoc (t : Tr) : ∀ (ts : List Tr) (i : Nat), Tr.pathsL i (ts ++ [t]) = Tr.pathsL i ts ++ t.paths.map (fun p => (((i + ts.length : Nat)) : Int) :: p)
  | [], i => by
    show t.paths.map _ ++ [] = [] ++ _
    simp
  | a :: ts, i => by
    show a.paths.map _ ++ Tr.pathsL (i + 1) (ts ++ [t]) = (a.paths.map _ ++ Tr.pathsL (i + 1) ts) ++ _
    rw [pathsL_snoc t ts (i + 1), List.append_assoc, List.length_cons, show i + 1 + ts.length = i + (ts.length + 1) by omega]
mutual
theorem paths_len : ∀ t : Tr, t.paths.length = t.size
  | .mk h ps => by
    show (Tr.pathsL 0 ps).length + 1 = Tr.sizes ps + 1
    rw [pathsL_len 0 ps]
theorem pathsL_len : ∀ (i : Nat) (ts : List Tr), (Tr.pathsL i ts).length = Tr.sizes ts
  | _, [] => rfl
  | i, t :: ts => by
    show (t.paths.map _ ++ Tr.pathsL (i + 1) ts).length = t.size + Tr.sizes ts
    rw [List.length_append, List.length_map, paths_len t, pathsL_len (i + 1) ts]
end
theorem pathsL_mem {q : List Int} : ∀ (ts : List Tr) (i : Nat), q ∈ Tr.pathsL i ts → ∃ (j : Nat) (t : Tr) (p : List Int), ts[j]? = some t ∧ p ∈ t.paths ∧ q = ((i + j : Nat) : Int) :: p
  | [], i, m => by cases m
  | a :: ts, i, m => by
    have m' : q ∈ a.paths.map (fun p => ((i : Nat) : Int) :: p) ++ Tr.pathsL (i + 1) ts := m
    rcases List.mem_append.mp m' with m | m
    · obtain ⟨p, hp, rfl⟩ := List.mem_map.mp m
      exact ⟨0, a, p, rfl, hp, rfl⟩
    · obtain ⟨j, t, p, e1, e2, e3⟩ := pathsL_mem ts (i + 1) m
      exact ⟨j + 1, t, p, by simpa using e1, e2, by rw [e3]; congr 2; omega⟩
theorem paths_at : ∀ (n : Nat) (t : Tr), t.dep ≤ n → ∀ p ∈ t.paths, ∃ s, Tr.at p t = some s := by
  intro n
  induction n with
  | zero =>
    intro t h
    cases t with
    | mk hd ps => exact absurd h (by show ¬ (Tr.deps ps + 1 ≤ 0); omega)
  | succ n ih =>
    intro t h p hp
    cases t with
    | mk hd ps =>
      have hp' : p ∈ ([] : List Int) :: Tr.pathsL 0 ps := hp
      rcases List.mem_cons.mp hp' with rfl | hp'
      · exact ⟨_, rfl⟩
      · obtain ⟨j, t, q, e1, e2, rfl⟩ := pathsL_mem ps 0 hp'
        obtain ⟨s, es⟩ := ih t (dep_mk.mp h t (List.mem_of_getElem? e1)) q e2
        refine ⟨s, ?_⟩
        show (if 0 ≤ ((0 + j : Nat) : Int) then (ps[((0 + j : Nat) : Int).toNat]?).bind (Tr.at q) else none) = some s
        rw [if_pos (by omega), Nat.zero_add, Int.toNat_natCast, e1]
        exact es
theorem paths_size : ∀ (n : Nat) (t : Tr), t.dep ≤ n → ∀ p ∈ t.paths, p.length < t.dep := by
  intro n t h p hp
  obtain ⟨s, es⟩ := paths_at n t h p hp
  have := at_dep p es
  have : 1 ≤ s.dep := by cases s with | mk hd ps => show 1 ≤ Tr.deps ps + 1; omega
  omega
def pathI (x : List Int) : PyData := .tuple (x.map PyData.int)
theorem flat_pathI (xs : List (List Int)) : flatDs (xs.map pathI) = true := flatDs_of _ fun d hd => by
  obtain ⟨x, _, rfl⟩ := List.mem_map.mp hd
  exact flatDs_ints x
theorem dp_pathI {K : PySem.W.Frag} {H : Hp} {t : Addr} {x : List Int} (h : SqT K H t (x.map V.int)) : Dp K H (.ref t) (pathI x) := .tup h (dpAll_ints x)
theorem dpAll_ints_inv {K : PySem.W.Frag} {H : Hp} : ∀ {x : List Int} {vs : List V}, DpAll K H vs (x.map PyData.int) → vs = x.map V.int
  | [], _, h => by cases h; rfl
  | i :: x, _, h => by
    cases h with
    | cons h1 h2 => rw [dp_int h1, dpAll_ints_inv h2]; rfl
theorem pathI_inv {K : PySem.W.Frag} {H : Hp} {v : V} {x : List Int} (h : Dp K H v (pathI x)) : ∃ t, v = .ref t ∧ SqT K H t (x.map V.int) := by
  obtain ⟨a, its, rfl, hs, ha⟩ := dp_tup h
  rw [dpAll_ints_inv ha] at hs
  exact ⟨a, rfl, hs⟩
end Cm

/-! keep forms of trees; once in their place -/
namespace Cm
open PySem L2 PySem.Spec PyProof.Rows
def isKeep : Hd → Bool
  | .one w _ => decide (w = "keep")
  | _ => false
theorem eq_keep {h : Hd} {n : Nat} (o : hok h n) : decide (V.str (wd h) = V.str "keep") = isKeep h := by
  have other : kd h ≠ 3 → decide (wd h = "keep") = false := fun q => by
    have key : ∀ c < 10, c ≠ 3 → ∀ w ∈ wordsOf c, decide (w = ("keep" : Str)) = false := by decide +kernel
    exact key _ (wd_mem o).1 q _ (wd_mem o).2
  rw [decS]
  cases h with
  | one w x => rfl
  | num i => exact other (Nat.ne_of_beq_eq_false rfl)
  | name i => exact other (Nat.ne_of_beq_eq_false rfl)
  | lit i => exact other (Nat.ne_of_beq_eq_false rfl)
  | fn i => exact other (Nat.ne_of_beq_eq_false rfl)
  | bind i _ => exact other (Nat.ne_of_beq_eq_false rfl)
  | doo => exact other (Nat.ne_of_beq_eq_false rfl)
  | call => exact other (Nat.ne_of_beq_eq_false rfl)
  | op i => exact other (Nat.ne_of_beq_eq_false rfl)
  | plain i => exact other (Nat.ne_of_beq_eq_false rfl)
def keepAt (t : Tr) (p : List Int) : Bool := match Tr.at p t with
  | some s => isKeep s.hd
  | none => false
def keepPaths (t : Tr) : List (List Int) := t.paths.filter (keepAt t)
def keepL : Nat → List Tr → List (List Int)
  | _, [] => []
  | i, t :: ts => (keepPaths t).map (fun p => ((i : Nat) : Int) :: p) ++ keepL (i + 1) ts
theorem keepAt_cons {h : Hd} {ps : List Tr} {j : Nat} {t : Tr} (e : ps[j]? = some t) (p : List Int) : keepAt (.mk h ps) (((j : Nat) : Int) :: p) = keepAt t p := by
  unfold keepAt
  show (match (if 0 ≤ ((j : Nat) : Int) then (ps[((j : Nat) : Int).toNat]?).bind (Tr.at p) else none : Option Tr) with | some s => isKeep s.hd | none => false) = _
  rw [if_pos (by omega), Int.toNat_natCast, e]
  rfl
theorem filter_pathsL (h : Hd) : ∀ (ts pre : List Tr), (Tr.pathsL pre.length ts).filter (keepAt (.mk h (pre ++ ts))) = keepL pre.length ts
  | [], pre => rfl
  | t :: ts, pre => by
    show (t.paths.map (fun p => ((pre.length : Nat) : Int) :: p) ++ Tr.pathsL (pre.length + 1) ts).filter _ = (keepPaths t).map _ ++ keepL (pre.length + 1) ts
    have ih := filter_pathsL h ts (pre ++ [t])
    rw [List.length_append, List.length_singleton, List.append_assoc] at ih
    rw [List.filter_append]
    have e2 : pre ++ t :: ts = pre ++ ([t] ++ ts) := rfl
    rw [e2, ih]
    congr 1
    rw [List.filter_map]
    congr 1
    unfold keepPaths
    refine List.filter_congr fun p _ => ?_
    show keepAt (.mk h (pre ++ ([t] ++ ts))) (((pre.length : Nat) : Int) :: p) = keepAt t p
    exact keepAt_cons (by rw [List.getElem?_append_right (Nat.le_refl _), Nat.sub_self]; rfl) p
theorem keepPaths_mk (h : Hd) (ps : List Tr) : keepPaths (.mk h ps) = (if isKeep h = true then [[]] else []) ++ keepL 0 ps := by
  unfold keepPaths
  show (([] : List Int) :: Tr.pathsL 0 ps).filter (keepAt (.mk h ps)) = _
  have e := filter_pathsL h ps []
  simp only [List.nil_append, List.length_nil] at e
  rw [List.filter_cons, e]
  show (if isKeep h = true then _ else _) = _
  by_cases q : isKeep h = true
  · rw [if_pos q, if_pos q]; rfl
  · rw [if_neg q, if_neg q]; rfl
theorem keepL_snoc (t : Tr) : ∀ (ts : List Tr) (i : Nat), keepL i (ts ++ [t]) = keepL i ts ++ (keepPaths t).map (fun p => (((i + ts.length : Nat)) : Int) :: p)
  | [], i => by
    show (keepPaths t).map _ ++ [] = [] ++ _
    simp
  | a :: ts, i => by
    show (keepPaths a).map _ ++ keepL (i + 1) (ts ++ [t]) = ((keepPaths a).map _ ++ keepL (i + 1) ts) ++ _
    rw [keepL_snoc t ts (i + 1), List.append_assoc, List.length_cons, show i + 1 + ts.length = i + (ts.length + 1) by omega]
theorem keepL_le : ∀ (ts : List Tr) (i : Nat), (keepL i ts).length ≤ Tr.sizes ts
  | [], i => Nat.le_refl _
  | t :: ts, i => by
    have := keepL_le ts (i + 1)
    have h1 : (keepPaths t).length ≤ t.size := by rw [← paths_len]; exact List.length_filter_le ..
    show ((keepPaths t).map _ ++ keepL (i + 1) ts).length ≤ t.size + Tr.sizes ts
    rw [List.length_append, List.length_map]
    omega
/-! ### once in the place of keep at the paths of S -/
def reword (b : Bool) : Hd → Hd
  | .one w x => if b = true ∧ w = "keep" then .one "once" x else .one w x
  | h => h
mutual
def Tr.rw (S : List (List Int)) (pre : List Int) : Tr → Tr
  | .mk h ps => .mk (reword (decide (pre ∈ S)) h) (Tr.rwL S pre 0 ps)
def Tr.rwL (S : List (List Int)) (pre : List Int) : Nat → List Tr → List Tr
  | _, [] => []
  | i, t :: ts => Tr.rw S (pre ++ [((i : Nat) : Int)]) t :: Tr.rwL S pre (i + 1) ts
end
theorem rwL_len (S : List (List Int)) (pre : List Int) : ∀ (ts : List Tr) (i : Nat), (Tr.rwL S pre i ts).length = ts.length
  | [], _ => rfl
  | t :: ts, i => by
    show (Tr.rwL S pre (i + 1) ts).length + 1 = ts.length + 1
    rw [rwL_len S pre ts (i + 1)]
theorem rwL_at (S : List (List Int)) (pre : List Int) : ∀ (ts : List Tr) (i j : Nat), (Tr.rwL S pre i ts)[j]? = (ts[j]?).map (Tr.rw S (pre ++ [((i + j : Nat) : Int)]))
  | [], _, _ => rfl
  | t :: ts, i, 0 => rfl
  | t :: ts, i, j + 1 => by
    show (Tr.rwL S pre (i + 1) ts)[j]? = (ts[j]?).map _
    rw [rwL_at S pre ts (i + 1) j, show i + 1 + j = i + (j + 1) by omega]
theorem rwL_eq {S R : List (List Int)} {pre : List Int} : ∀ (ts : List Tr) (i : Nat), (∀ j t, ts[j]? = some t → Tr.rw S (pre ++ [((i + j : Nat) : Int)]) t = Tr.rw R (pre ++ [((i + j : Nat) : Int)]) t) → Tr.rwL S pre i ts = Tr.rwL R pre i ts
  | [], _, _ => rfl
  | t :: ts, i, h => by
    show Tr.rw S _ t :: Tr.rwL S pre (i + 1) ts = Tr.rw R _ t :: Tr.rwL R pre (i + 1) ts
    have h0 := h 0 t rfl
    rw [Nat.add_zero] at h0
    have h1 := rwL_eq (S := S) (R := R) (pre := pre) ts (i + 1) fun j t e => by
      have := h (j + 1) t (by simpa using e)
      rw [show i + 1 + j = i + (j + 1) by omega]
      exact this
    rw [h0, h1]
/-- a path that does not begin so changes nothing -/
theorem rw_irrel {S : List (List Int)} {q : List Int} (t : Tr) : ∀ (pre : List Int), (∀ r, q ≠ pre ++ r) → Tr.rw (S ++ [q]) pre t = Tr.rw S pre t := by
  refine tr_ind (P := fun t => ∀ (pre : List Int), (∀ r, q ≠ pre ++ r) → Tr.rw (S ++ [q]) pre t = Tr.rw S pre t) (fun h ps ih pre hq => ?_) t
  show Tr.mk (reword (decide (pre ∈ S ++ [q])) h) (Tr.rwL (S ++ [q]) pre 0 ps) = Tr.mk (reword (decide (pre ∈ S)) h) (Tr.rwL S pre 0 ps)
  have e1 : decide (pre ∈ S ++ [q]) = decide (pre ∈ S) := by
    have n : pre ≠ q := fun e => hq [] (by rw [e, List.append_nil])
    simp [n]
  rw [e1, rwL_eq ps 0 fun j t e => ih t (List.mem_of_getElem? e) _ fun r z => hq ([((0 + j : Nat) : Int)] ++ r) (by rw [z, List.append_assoc])]
theorem put_rw {S : List (List Int)} : ∀ (p pre : List Int) (t : Tr) (x : Str) (b : Tr), Tr.at p t = some (.mk (.one "keep" x) [b]) →
    ∃ w b', Tr.at p (Tr.rw S pre t) = some (.mk (.one w x) [b']) ∧ Tr.put p (Tr.rw S pre t) (.mk (.one "once" x) [b']) = Tr.rw (S ++ [pre ++ p]) pre t
  | [], pre, t, x, b, e => by
    cases e
    have e2 : Tr.rw (S ++ [pre ++ []]) pre (.mk (.one "keep" x) [b]) = .mk (.one "once" x) [Tr.rw S (pre ++ [((0 : Nat) : Int)]) b] := by
      show Tr.mk (reword (decide (pre ∈ S ++ [pre ++ []])) (.one "keep" x)) [Tr.rw (S ++ [pre ++ []]) (pre ++ [((0 : Nat) : Int)]) b] = _
      rw [List.append_nil, rw_irrel b (pre ++ [((0 : Nat) : Int)]) fun r z => by
        have := congrArg List.length z
        simp at this]
      simp [reword]
    have e3 : ∃ w, reword (decide (pre ∈ S)) (.one "keep" x) = .one w x := by
      show ∃ w, (if decide (pre ∈ S) = true ∧ ("keep" : Str) = "keep" then Hd.one "once" x else Hd.one "keep" x) = .one w x
      split
      · exact ⟨_, rfl⟩
      · exact ⟨_, rfl⟩
    obtain ⟨w, e3⟩ := e3
    refine ⟨w, Tr.rw S (pre ++ [((0 : Nat) : Int)]) b, ?_, ?_⟩
    · show some (Tr.mk (reword (decide (pre ∈ S)) (.one "keep" x)) [Tr.rw S (pre ++ [((0 : Nat) : Int)]) b]) = _
      rw [e3]
    · rw [e2]
      rfl
  | i :: r, pre, .mk h ps, x, b, e => by
    have e' : (if 0 ≤ i then (ps[i.toNat]?).bind (Tr.at r) else none) = some (.mk (.one "keep" x) [b]) := e
    have h0 : 0 ≤ i := by
      by_cases q : 0 ≤ i
      · exact q
      · rw [if_neg q] at e'
        cases e'
    obtain ⟨m, rfl⟩ : ∃ m : Nat, i = (m : Int) := ⟨i.toNat, by omega⟩
    rw [if_pos h0, Int.toNat_natCast] at e'
    cases ec : ps[m]? with
    | none => rw [ec] at e'; cases e'
    | some c =>
      rw [ec] at e'
      obtain ⟨w, b', g1, g2⟩ := put_rw r (pre ++ [(m : Int)]) c x b e'
      have er : (Tr.rwL S pre 0 ps)[m]? = some (Tr.rw S (pre ++ [(m : Int)]) c) := by rw [rwL_at, ec, Nat.zero_add]; rfl
      refine ⟨w, b', ?_, ?_⟩
      · show (if 0 ≤ (m : Int) then ((Tr.rwL S pre 0 ps)[(m : Int).toNat]?).bind (Tr.at r) else none) = _
        rw [if_pos h0, Int.toNat_natCast, er]
        exact g1
      · show (match (Tr.rwL S pre 0 ps)[(m : Int).toNat]? with | some p => Tr.mk (reword (decide (pre ∈ S)) h) ((Tr.rwL S pre 0 ps).set (m : Int).toNat (Tr.put r p _)) | none => _) = _
        rw [Int.toNat_natCast, er]
        show Tr.mk (reword (decide (pre ∈ S)) h) ((Tr.rwL S pre 0 ps).set m (Tr.put r (Tr.rw S (pre ++ [(m : Int)]) c) (.mk (.one "once" x) [b']))) = Tr.mk (reword (decide (pre ∈ S ++ [pre ++ (m : Int) :: r])) h) (Tr.rwL (S ++ [pre ++ (m : Int) :: r]) pre 0 ps)
        rw [g2]
        have e1 : decide (pre ∈ S ++ [pre ++ (m : Int) :: r]) = decide (pre ∈ S) := by
          have n : pre ≠ pre ++ (m : Int) :: r := fun e => by
            have := congrArg List.length e
            simp at this
          simp [n]
        rw [e1]
        congr 1
        have hm : m < ps.length := (List.getElem?_eq_some_iff.mp ec).1
        refine List.ext_getElem? fun j => ?_
        rw [rwL_at]
        by_cases q : j = m
        · subst q
          rw [List.getElem?_set_self (by rw [rwL_len]; exact hm), ec, Nat.zero_add, List.append_assoc]
          rfl
        · rw [List.getElem?_set_ne (Ne.symm q), rwL_at]
          cases ej : ps[j]? with
          | none => rfl
          | some d =>
            show some _ = some _
            rw [rw_irrel d (pre ++ [((0 + j : Nat) : Int)]) fun r' z => q ?_]
            rw [List.append_assoc] at z
            have z2 := List.append_cancel_left z
            simp at z2
            omega
end Cm

/-! paths as data: equality, being in a list -/
namespace Cm
open PySem L2 PySem.Spec PyProof.Rows
theorem eqvAll_intsP : ∀ a b : List Int, PyData.eqvAll (a.map PyData.int) (b.map PyData.int) = decide (a = b)
  | [], [] => by simp [PyData.eqvAll]
  | [], b :: bs => by simp [PyData.eqvAll]
  | a :: as, [] => by simp [PyData.eqvAll]
  | a :: as, b :: bs => by
    have ih := eqvAll_intsP as bs
    simp only [List.map_cons, PyData.eqvAll, PyData.eqv, ih]
    by_cases h : a = b
    · by_cases h2 : as = bs <;> simp [h, h2]
    · simp [h]
theorem eqv_path (a b : List Int) : PyData.eqv (pathI a) (pathI b) = decide (a = b) := by
  have := eqvAll_intsP a b
  simp only [pathI, PyData.eqv]
  exact this
theorem any_path (S : List (List Int)) (p : List Int) : ((S.map pathI).any fun z => PyData.eqv z (pathI p)) = decide (p ∈ S) := by
  induction S with
  | nil => rfl
  | cons s S ih =>
    rw [List.map_cons, List.any_cons, ih, eqv_path]
    by_cases h : s = p
    · simp [h]
    · have : ¬ p = s := fun z => h z.symm
      simp [h, this]
theorem lay_path (p : List Int) : Lay 1 (pathI p) := Lay.tup (n := 0) fun d hd => by
  obtain ⟨i, _, rfl⟩ := List.mem_map.mp hd
  exact .int i 0
theorem lay_paths (S : List (List Int)) : Lay 2 (.list (S.map pathI)) := Lay.lst fun d hd => by
  obtain ⟨i, _, rfl⟩ := List.mem_map.mp hd
  exact lay_path i
theorem lay_pathsT (S : List (List Int)) : Lay 2 (.tuple (S.map pathI)) := Lay.tup fun d hd => by
  obtain ⟨i, _, rfl⟩ := List.mem_map.mp hd
  exact lay_path i
theorem ko_notInD {X : Cx} {K : PySem.W.Frag} (hu : X.A.units + 65 < cLine) (h : X.K = K := by rfl) : OpR X (compareOp .NotIn) (rNotInD K) := by subst h; exact op_notInD hu
theorem ko_inD {X : Cx} {K : PySem.W.Frag} (hu : X.A.units + 65 < cLine) (h : X.K = K := by rfl) : OpR X (compareOp .In) (rInD K) := by subst h; exact op_inD hu
def rListOf (K : PySem.W.Frag) : List V → Hp → VK → Prop := fun xs H Q => ∃ p ys, xs = [.ref p] ∧ (SqL K H p ys ∨ SqT K H p ys) ∧ ∀ l, H l = Option.none → Q (.ref l) (upd H l (.lst ys))
theorem kc_listOf {X : Cx} {K : PySem.W.Frag} (h : X.K = K := by rfl) : CallR X (.type "list") (rListOf K) := by subst h; exact call_list_of
theorem room65 {k : Nat} {A : Around} (r : Room k A) : A.units + 65 < cLine := by have := r.un; omega
end Cm

/-! an exception that is caught and kept as a value -/
namespace Cm
open PySem L2 PySem.Spec PyProof.Rows
/-- an exception object at a: its class, its dict -/
def ExH (a : Addr) (cls : Value) (d : Option Addr) : HO := .ext fun h => ∃ (o : Obj) (vs : Array Value), h.get? a = some o ∧ Zc cls d o ∧ o.data = .fields vs
theorem exH_ok {P : Program} {w : World} {H : Hp} {h : Heap} {a : Addr} {cls : Value} {d : Option Addr} {o : Obj} {vs : Array Value} (e : h.get? a = some o) (z : Zc cls d o) (f : o.data = .fields vs) : ObjOk P w H h a (ExH a cls d) :=
  ⟨⟨o, vs, e, z, f⟩, ⟨o, e⟩, fun h1 h2 ⟨o', vs', e', z', f'⟩ k => ⟨o', vs', k _ e', z', f'⟩⟩
theorem exH_at {P : Program} {w : World} {H : Hp} {h : Heap} {a : Addr} {cls : Value} {d : Option Addr} (hok : HOk P w H h) (e : H a = some (ExH a cls d)) : ∃ (o : Obj) (vs : Array Value), h.get? a = some o ∧ Zc cls d o ∧ o.data = .fields vs := by
  have x : ObjOk P w H h a (ExH a cls d) := hok a _ e
  exact x.1
section
variable {X : Cx} {pins : List (Addr × Obj)} {σ : L2.St} {H : Hp} {s : Shared}
theorem track {a : Addr} {o : HO} (I : Inv X pins σ H s) (na : H a = Option.none) (n0 : X.s_0.heap.get? a = Option.none) (nL : a ≠ X.env.locals) (nC : ∀ x c, X.env.cells.lookup x = some c → c ≠ a) (nP : ∀ p ∈ X.pn ++ pins, p.1 ≠ a)
    (new : ObjOk X.prog X.w (upd H a o) s.heap a o) : Inv X pins σ (upd H a o) s := by
  have other : ∀ {b : Addr} {u : HO}, H b = some u → (upd H a o) b = some u := fun {b u} e => by
    rw [upd_ne (ne_of_none e na)]
    exact e
  refine ⟨I.ok, I.os, I.bare, ⟨I.base.keep, I.base.slot, fun b u e n hx => ?_, I.base.there, fun b xs e => other (I.base.tups b xs e), fun b u xs e => other (I.base.frzs b u xs e), fun b ps e => ?_⟩, I.loc, I.cell, ?_, fun x c e => ?_, fun p hp => ?_, fun b u e => ?_, I.len⟩
  · have hb : b ≠ a := fun z => by
      rw [z, n0] at e
      cases e
    rw [upd_ne hb]
    exact I.base.free b u e n hx
  · obtain ⟨more, q⟩ := I.base.tbls b ps e
    exact ⟨more, other q⟩
  · rw [upd_ne nL.symm]
    exact I.free
  · rw [upd_ne (nC x c e)]
    exact I.freeC x c e
  · obtain ⟨e, n, ne, nf, dd⟩ := I.pin p hp
    exact ⟨e, by rw [upd_ne (nP p hp)]; exact n, ne, nf, dd⟩
  · by_cases hb : b = a
    · subst hb
      rw [upd_same] at e
      cases e
      exact new
    · rw [upd_ne hb] at e
      exact (I.hok b u e).stay (fun c v _ q => q) (fun c q => other q) fun c xs q => other q
theorem suite0 (I : Inv X pins σ H s) (a : Addr) : Inv (X.suite a (X.pn ++ pins)) [] σ H s :=
  ⟨I.ok.suite _ _, I.os, I.bare, I.base, I.loc, I.cell, I.free, I.freeC, fun p hp => I.pin p (by rw [List.append_nil] at hp; exact hp), I.hok, I.len⟩
theorem unsuite0 {a : Addr} {pn' : List (Addr × Obj)} (I : Inv (X.suite a (X.pn ++ pins)) pn' σ H s) (ok : X.Ok) : Inv X pins σ H s :=
  ⟨ok, I.os, I.bare, I.base, I.loc, I.cell, I.free, I.freeC, fun p hp => I.pin p (List.mem_append_left _ hp), I.hok, I.len⟩
end
/-- what the clause asks where the caught exception is kept -/
def wHeld (K : PySem.W.Frag) (c : Value) (i : Nat) (ts : Addr → TS) (D : Ends) : WX := fun cls d σ H =>
  PySem.W.exmOne K cls c = some true ∧ ∀ a, H a = Option.none → ts a { nx := fun σ' H' => D.nx (σ'.set i Option.none) H', rt := D.rt, bk := fun σ' H' => D.bk (σ'.set i Option.none) H', ct := fun σ' H' => D.ct (σ'.set i Option.none) H' } (σ.set i (some (.ref a))) (upd H a (ExH a cls d))
section
variable {X : Cx} {x n : Str} {c : Value} {i : Nat} {body suite : List Stmt} {b₀ : Stmt} {np pos pos' : Pos} {tb : WX → TS} {ts : Addr → TS}
theorem ps_try_held (hs : X.stack = X.env :: X.outer) (hf : X.env.frame = some X.env.locals) (hN : X.N.Nodup) (hi : X.N[i]? = some n) (hln : X.env.kindOf n = some .local) (hc : Names X x c) (hex : X.ex = [])
    (hb : ∀ (W : WX) (pn : List (Addr × Obj)) (xe : Value → Shared → Prop), Takes (X.tr pn xe) W → PassesOwn (model X.prog X.w) X.A X.env xe → PSs (X.tr pn xe) body (tb W))
    (hsu : ∀ (a : Addr) (pn : List (Addr × Obj)), PSs (X.suite a pn) (b₀ :: suite) (ts a)) :
    PS X (.Try body [.ExceptHandler (some (.Name x np)) (some n) (b₀ :: suite) pos'] [] [] pos) (fun D σ H => tb (wHeld X.K c i ts D) D σ H) := by
  refine ⟨fun pins s σ H D I h => ?_⟩
  have ok := I.ok
  have hfr : X.A.frames = some (X.env :: X.outer) := by rw [ok.frames, hs]
  refine wpAny_Try_except ?_
  refine wpAny_mono ((hb (wHeld X.K c i ts D) (X.pn ++ pins) (fun e s₁ => wpAny (model X.prog X.w) X.A (noteFrame e X.env) (fun _ s₂ => wpAny (model X.prog X.w) X.A (setFlight e Option.none) (fun _ s₃ =>
    wpAny (model X.prog X.w) X.A (handleBy e X.env [.ExceptHandler (some (.Name x np)) (some n) (b₀ :: suite) pos']) (SP X pins D) X.xe s₃) X.xe s₂) X.xe s₁) (fun u s' xx => ?_) PassesOwn.looking).run [] s σ H D (I.toTry _) h) (fun f s1 hsp => ?_) (fun e s1 he => he)
  · obtain ⟨a, B, sI, pins', σ', H', cls, d, rfl, J', nb, up, sky, na, os, ag, hb1, hyes⟩ := xx
    have J : Inv X pins σ' H' sI := J'.ofTry ok
    have sky' : Sky B (X.env :: X.outer) a (Zc cls d) X.env.locals s'.heap := by rw [← hs]; exact sky
    show wpAny _ _ (noteFrame (.ref a) X.env) _ _ _
    refine Sky.land Zc.steady hfr hf sky' fun h3 fl3 up3 => ?_
    have J3 : Inv X pins σ' H' { s' with heap := h3 } := J.landed nb fl3.1 (up.trans up3) os ag
    obtain ⟨oe3, vs3, he3, hz3, hd3⟩ := fl3.there
    have nfr : a ∉ frs X.stack := fun hm => by
      rw [hs] at hm
      obtain ⟨_, o', e', hnf⟩ := fl3.2.2.1.mem hm
      rw [he3] at e'
      cases e'
      exact hnf _ hd3
    have nsI : sI.heap.get? a = Option.none := by
      cases q : sI.heap.get? a with
      | none => rfl
      | some o =>
        have z := nb a o q nfr
        rw [fl3.2.1] at z
        cases z
    have n0 : X.s_0.heap.get? a = Option.none := by
      cases q : X.s_0.heap.get? a with
      | none => rfl
      | some o =>
        obtain ⟨o', z⟩ := J.base.there a o q (by rw [hex]; exact List.not_mem_nil)
        rw [nsI] at z
        cases z
    have nL : a ≠ X.env.locals := fun z => nfr (by
      rw [hs]
      exact List.mem_filterMap.mpr ⟨X.env, List.mem_cons_self, by rw [hf, z]⟩)
    have nC : ∀ y c, X.env.cells.lookup y = some c → c ≠ a := fun y c e z => by
      obtain ⟨v, o, ho, _⟩ := J.cell y c e
      rw [z, nsI] at ho
      cases ho
    have nP : ∀ p ∈ X.pn ++ pins, p.1 ≠ a := fun p hp z => by
      have q := (J.pin p hp).1
      rw [z, nsI] at q
      cases q
    have S3 := suite0 J3 a
    refine wpAny_handleBy_cons (codeAny_handlers_test ?_) (by intro q; cases q)
    have LT : PySem.W.Looks (model X.prog X.w) h3 (typeOf (.ref a)) cls := fun A Q E s k q => wpAny_typeOf_ref (k _ _ he3) (by rw [hz3.1]; exact q)
    have LM := PySem.W.exm_one (M := model X.prog X.w) (J3.kIn) LT hb1
    have test : ∀ {Q : Value → Shared → Prop} {E : Value → Shared → Prop}, Q c { s' with heap := h3 } → wpAny (model X.prog X.w) (X.A.mark (some (.ref a))) (eval (.Name x np) X.env) Q E { s' with heap := h3 } := fun {Q E} q => by
      obtain ⟨hg, hdbg, hm | ⟨hm, hv, hnn⟩⟩ := hc
      · exact ld_glob (X := X.suite a (X.pn ++ pins)) S3 hg hm q hdbg
      · exact ld_blt (X := X.suite a (X.pn ++ pins)) S3 hg hm hv q hnn hdbg
    refine test (LM.here ?_)
    refine codeAny_handlers_suite_as ?_
    refine HandSPX.lands_againZ fl3 fun h4 fl4 up4 => ?_
    have J4 : Inv X pins σ' H' { s' with heap := h4 } := J.landed nb fl4.1 ((up.trans up3).trans up4) os ag
    obtain ⟨oe4, vs4, he4, hz4, hd4⟩ := fl4.there
    have T4 := track (o := ExH a cls d) J4 na n0 nL nC nP (exH_ok he4 hz4 hd4)
    have S4 := suite0 T4 a
    refine store_ok (X := X.suite a (X.pn ++ pins)) (v := .ref a) S4 hN hi (.inl hln) rfl (fun s5 S5 => ?_) (.inr hln)
    refine wpAny_mono ((hsu a (X.pn ++ pins)).run [] s5 _ _ _ S5 (hyes a na)) (fun f s6 hsp => ?_) (fun _ _ z => False.elim z)
    have end_ : ∀ {σ6 : L2.St} {H6 : Hp} {Q : Shared → Prop}, Inv (X.suite a (X.pn ++ pins)) [] σ6 H6 s6 → (∀ s7, Inv X pins (σ6.set i Option.none) H6 s7 → Q s7) →
        wpAny (model X.prog X.w) X.A (do bindName X.env n .none; unbindBehindTheSuite X.env n pos') (fun _ s7 => Q s7) X.xe s6 := fun {σ6 H6 Q} S6 hq => gone_ok (unsuite0 S6 ok) hN hi hln hq
    cases f with
    | next =>
      obtain ⟨σ6, H6, S6, q6⟩ := hsp
      exact end_ S6 fun s7 J7 => ⟨_, _, J7, q6⟩
    | brk =>
      obtain ⟨σ6, H6, S6, q6⟩ := hsp
      exact end_ S6 fun s7 J7 => ⟨_, _, J7, q6⟩
    | cont =>
      obtain ⟨σ6, H6, S6, q6⟩ := hsp
      exact end_ S6 fun s7 J7 => ⟨_, _, J7, q6⟩
    | ret u =>
      obtain ⟨v6, σ6, H6, S6, r6, q6⟩ := hsp
      exact end_ S6 fun s7 J7 => ⟨_, _, _, J7, r6, q6⟩
  · cases f with
    | next =>
      obtain ⟨σ', H', J', q⟩ := hsp
      exact wpAny_execs_nil ⟨σ', H', J'.ofTry ok, q⟩
    | brk =>
      obtain ⟨σ', H', J', q⟩ := hsp
      exact ⟨σ', H', J'.ofTry ok, q⟩
    | cont =>
      obtain ⟨σ', H', J', q⟩ := hsp
      exact ⟨σ', H', J'.ofTry ok, q⟩
    | ret u =>
      obtain ⟨v, σ', H', J', r, q⟩ := hsp
      exact ⟨v, σ', H', J'.ofTry ok, r, q⟩
end
/-! ### isinstance(x, C), x a kept exception of just that class -/
theorem ans_same {x t : Value} {P : Heap → Prop} (ty : ∀ (M : Model) (h : Heap), P h → PySem.W.Looks M h (typeOf x) t) : Answers (fun s => P s.heap) x t true := by
  intro dep tk prog w A R s hs
  obtain ⟨h0, g, d, tt, os⟩ := s
  obtain ⟨p, hq⟩ := hs
  have LT := ty (model prog w) h0 p
  unfold Builtin.«isinstance.nested»
  refine wpAny_bind (LT.at ?_)
  have q : (t == t) = true := beq_self_eq_true t
  rw [if_pos q]
  first
    | exact wpAny_bind (wpAny_rule (hq tt))
    | exact wpAny_bind (wpAny_rule (wpAny_pure (hq tt)))
    | exact wpAny_pure (hq tt)
def rIsX : List V → Hp → VK → Prop := fun xs H Q => ∃ (a C : Addr) (d : Option Addr), xs = [.ref a, .ref C] ∧ H a = some (ExH a (.ref C) d) ∧ Q (.bl true) H
theorem call_isX {X : Cx} : CallR X (.builtin "isinstance") rIsX := by
  intro pins s σ H xs us Q I r h
  obtain ⟨a, C, d, rfl, e, q⟩ := h
  obtain ⟨u1, u2, rfl, r1, r2⟩ := vals2 r
  obtain rfl : u1 = Value.ref a := r1
  obtain rfl : u2 = Value.ref C := r2
  obtain ⟨o, vs, ho, z, f⟩ := exH_at I.hok e
  refine call_isinstance (S := fun _ R s => (∃ o, s.heap.get? a = some o ∧ o.cls = .ref C) ∧ ∀ tk, R (.ok (.ret (.bool true))) { s with toks := tk })
    (fun prog w A R s hs => isinstance_outer (ans_same (P := fun h => ∃ o, h.get? a = some o ∧ o.cls = .ref C) (fun M h ⟨o, e, c⟩ => fun A Q E s k q => wpAny_typeOf_ref (k _ _ e) (by rw [c]; exact q)) 0 _ prog w A R s hs) (fun z => nomatch z)) ⟨⟨o, ho, z.1⟩, fun tk => ⟨.bl true, H, I.tok tk, rfl, q⟩⟩
/-! ### x.f, x a kept exception -/
def tFldX (K : PySem.W.Frag) (f : Str) (te : TE) : TE := fun σ H Q => te σ H fun x H1 => ∃ (a C dd : Addr) (fs : List (Str × V)) (v : V), x = .ref a ∧ XfC K C ∧ PySem.W.findIn K (.ref C) f = some Option.none ∧ H1 a = some (ExH a (.ref C) (some dd)) ∧ H1 dd = some (.xd fs) ∧ fs.lookup f = some v ∧ Q v H1
theorem pe_fldX {X : Cx} {e : Expr} {te : TE} {pos : Pos} {n : Str} (he : PE X e te) (hb : attributeBase e n X.env (eval e X.env) = eval e X.env := by rfl) : PE X (.Attribute e n pos) (tFldX X.K n te) := by
  refine ⟨fun pins s σ H Q I h => ?_⟩
  refine attr_of hb (thn (he.run pins s σ H _ I h) fun u s1 hh => ?_)
  obtain ⟨x, H1, I1, rx, a, C, dd, fs, v, ex, T, hno, eh, ea, l, q⟩ := hh
  subst ex
  obtain rfl : u = Value.ref a := rx
  obtain ⟨oe, vs, ha, hz, hd⟩ := exH_at I1.hok eh
  have hx : ObjOk X.prog X.w H1 s1.heap dd (.xd fs) := I1.hok dd _ ea
  obtain ⟨mA, hns, hr⟩ := hx
  obtain ⟨od, ho, hl⟩ := lookIn_ns hns
  obtain ⟨u, hu, ru⟩ := RelO.some_of (v := v) (o := mA n) (by rw [← l]; exact hr n)
  have J : PySem.W.InstAt s1.heap a oe C (some od) := ⟨ha, hz.1, by unfold PySem.W.notCls; rw [hd] <;> rfl, by rw [hz.2]; exact ho⟩
  exact HandSPX.exc_get I1.kIn J T.ga T.gg T.exC (PySem.W.findObj_own T.hdC hno rfl (by rw [hl, hu])) (handed_of ru) ⟨v, H1, I1.tok _, ru, q⟩
end Cm

set_option linter.all false
/-! a tuple times 0, 1, 2, .. -/
namespace L2
open PySem PySem.Spec PyProof.Rows
theorem tuple_mul1 (l : Addr) (items : Array Value) (n : Nat) (dd : Option Addr) (sl : Array (Option Value)) (u : Tok) :
    Meets (Builtin.«tuple.__mul__» ⟨[.ref l, .int 1 u], []⟩) (fun _ R s => s.heap.get? l = some { cls := .type "tuple", dict := dd, data := .seq items n, slots := sl } ∧ R (.ok (.ret (Value.ref l))) s) :=
  .of_wp fun prog w A R s h => by
    obtain ⟨hp, g, d, tk, os⟩ := s
    obtain ⟨hl, h⟩ := h
    have f1 := AutoSeq1.idx_int
    wp_walk using wpAny_loadPart' hl
    exact ⟨_, rfl, h⟩
theorem tuple_mul0 (l : Addr) (items : Array Value) (n : Nat) (dd : Option Addr) (sl : Array (Option Value)) (u : Tok) (hne : items.isEmpty = false) :
    Meets (Builtin.«tuple.__mul__» ⟨[.ref l, .int 0 u], []⟩) (fun _ R s => s.heap.get? l = some { cls := .type "tuple", dict := dd, data := .seq items n, slots := sl } ∧
      R (.ok (.ret (Value.ref s.heap.objs.size))) { s with heap := s.heap.push { cls := Value.type "tuple", data := Data.seq #[] }, toks := s.toks }) :=
  .of_wp fun prog w A R s h => by
    obtain ⟨hp, g, d, tk, os⟩ := s
    obtain ⟨hl, h⟩ := h
    have f1 := AutoSeq1.idx_int
    have c1 : (items.isEmpty || (0 : Int) == 1) = false := by rw [hne]; rfl
    wp_walk using wpAny_loadPart' hl
    repeat (first
      | (refine wpAny_ite_false (decide_eq_false (by rw [c1]; exact Bool.false_ne_true)) ?_; wp_walk using wpAny_loadPart' hl)
      | (refine wpAny_ite_true (decide_eq_true (by simp)) ?_; wp_walk using wpAny_loadPart' hl))
    exact ⟨_, rfl, h⟩
def rRepA (K : PySem.W.Frag) : R2 := fun x y H Q => ∃ (l : Addr) (k : Nat) (xs : List V), x = .ref l ∧ y = .int (k : Nat) ∧ SqT K H l xs ∧ xs ≠ [] ∧ k ≤ 1000 ∧ xs.length ≤ 1000 ∧
  ∀ t H', Same H H' → SqT K H' t (List.replicate k xs).flatten → Q (.ref t) H'
theorem op_repA {X : Cx} : OpR X (binaryOp .Mult) (rRepA X.K) := by
  intro pins s σ H x y v u Q I rx ry h
  obtain ⟨l, k, xs, rfl, rfl, hT, hne, h2, hz, q⟩ := h
  by_cases hk : 2 ≤ k
  · refine op_repT pins s σ H _ _ v u Q I rx ry ⟨l, (k : Int), xs, rfl, rfl, hT, hne, by omega, by omega, hz, fun p hp => ?_⟩
    rw [Int.toNat_natCast]
    exact q p _ (Cm.same_new hp) (.inl (.inl upd_same))
  cases rx
  obtain ⟨t, rfl⟩ := ry
  obtain ⟨its, r, ⟨⟨cls, dd, data, sl⟩, ho, hc, n, hd⟩, hs⟩ := I.tuple hT
  simp only at hc hd
  subst hc hd
  have hi : its.toArray.isEmpty = false := by
    cases its with
    | nil =>
      have := r.length
      exact absurd (List.eq_nil_of_length_eq_zero this) hne
    | cons a b => rfl
  by_cases h1 : k = 1
  · subst h1
    refine wpAny_binaryOp_repeat_ref (T := "tuple") (U := "int") (by decide) ⟨_, ho, rfl⟩ (fun s' => typeIs_int s' 1 t) noFill_tuple_mul F.fills_int_mul F.slot_int_rmul repeat_tuple F.slot_int_index.lookup
      (call_meets F.slot_int_rmul (typeIs_int s 1 t) F.entry_int_rmul (F.args_int_rmul_2 _ _) (int_rmul_tuple 1 t l its.toArray n dd sl)
        ⟨ho, rfl, ⟨_, ho, rfl⟩, call_meets F.slot_tuple_mul ⟨_, ho, rfl⟩ F.entry_tuple_mul (F.args_tuple_mul_2 _ _) (tuple_mul1 l its.toArray n dd sl t) ⟨ho, ?_⟩⟩)
    refine ⟨.ref l, H, I, rfl, q l H (Same.refl H) ?_⟩
    have e : (List.replicate 1 xs).flatten = xs := by simp
    rw [e]
    exact hT
  · have h0 : k = 0 := by omega
    subst h0
    refine wpAny_binaryOp_repeat_ref (T := "tuple") (U := "int") (by decide) ⟨_, ho, rfl⟩ (fun s' => typeIs_int s' 0 t) noFill_tuple_mul F.fills_int_mul F.slot_int_rmul repeat_tuple F.slot_int_index.lookup
      (call_meets F.slot_int_rmul (typeIs_int s 0 t) F.entry_int_rmul (F.args_int_rmul_2 _ _) (int_rmul_tuple 0 t l its.toArray n dd sl)
        ⟨ho, rfl, ⟨_, ho, rfl⟩, call_meets F.slot_tuple_mul ⟨_, ho, rfl⟩ F.entry_tuple_mul (F.args_tuple_mul_2 _ _) (tuple_mul0 l its.toArray n dd sl t hi) ⟨ho, ?_⟩⟩)
    have hn := I.hok.fresh (Nat.le_refl s.heap.objs.size)
    refine ⟨.ref s.heap.objs.size, _, I.laid (t' := s.toks) (o := .tup []) (fun b ob q => Heap.get?_push_of_some _ q) (Nat.le_refl _) ?_, rfl, q _ _ (Cm.same_new hn) (.inl (.inl upd_same))⟩
    exact ⟨by show 0 ≤ sizeLine; rw [sizeLine_eq]; omega, [], .nil, IsTup.new _ _⟩
end L2

set_option linter.all false
/-! sorted of texts and of a dict with text keys, of any length; rows of texts in order -/
namespace Cm
open PySem L2 PySem.Spec PyProof.Rows
section
variable {X : Cx}
def rSortedSA (K : PySem.W.Frag) : List V → Hp → VK → Prop := fun vs H Q => ∃ (a : Addr) (xs : List Str), vs = [V.ref a] ∧ SqL K H a (xs.map V.str) ∧
  ∀ (ys : List Str) (p : Addr), ys.Perm xs → sortedS ys = true → H p = Option.none → Q (.ref p) (upd H p (.lst (ys.map V.str)))
theorem cr_sortedSA : CallR X (.builtin "sorted") (rSortedSA X.K) := by
  intro pins s σ H vs us Q I r h
  obtain ⟨a, xs, rfl, hs, q⟩ := h
  obtain ⟨its, rv, hl, hz⟩ := I.list hs
  rw [Vals.ref1 r]
  have hlen0 := rv.length
  rw [List.length_map] at hlen0 hz
  refine PyProof.Rows.sorted_strsAny hl.isList rv.strs (by rw [← hlen0]; exact hz) fun out ys h1 h2 h3 => ?_
  obtain ⟨ep, he'⟩ := PyProof.Rows.sortedAll_at s.heap its out
  have hlen : (ys.map V.str).length ≤ sizeLine := by rw [List.length_map, h2.length_eq]; exact hz
  exact ⟨.ref _, upd H (s.heap.objs.size + 1) (.lst (ys.map V.str)), I.laid (t' := s.toks) (fun _ _ => PyProof.Rows.sortedAll_old) (Nat.le_succ _) ⟨hlen, out.toList, ep, vals_of_strs h1, he'⟩, rfl, q ys _ h2 h3 (I.hok.fresh (Nat.le_succ _))⟩
def rSortedDA : List V → Hp → VK → Prop := fun xs H Q => ∃ (a : Addr) (kvs : List (Key × V)) (ks : List Str), xs = [.ref a] ∧ Rd H a (.dK kvs) ∧ kvs.map (·.1) = ks.map Sum.inr ∧ ks.length ≤ 16000000 ∧
    ∀ ys p, ys.Perm ks → sortedS ys = true → H p = Option.none → Q (.ref p) (upd H p (.lst (ys.map V.str)))
theorem call_sortedDA (hcalm : X.calm = true) : CallR X (.builtin "sorted") rSortedDA := by
  intro pins s σ H xs us Q I r q
  obtain ⟨a, kvs, ks, ex, hd, hks, h64, q⟩ := q
  subst ex
  obtain ⟨u, eu, rx⟩ := vals1 r
  subst eu
  cases rx
  obtain ⟨z, lo, vs, rel, dd⟩ := dk_rd I.hok hd
  obtain ⟨ep, hat⟩ := dd.dictAt
  have hkeys : vs.map (·.1) = ks.map Sum.inr := rel.keys.symm.trans hks
  have hl : vs.length = ks.length := by
    have e := congrArg List.length hkeys
    rw [List.length_map, List.length_map] at e
    exact e
  have h16 : vs.length ≤ sizeLine := by rw [hl, sizeLine_eq]; omega
  refine Calls.call_function_entry PyProof.Rows.kind_sorted PyProof.Rows.plain_sorted PyProof.Rows.entry_sorted (PyProof.Rows.args_sorted1 _) ?_
  unfold Builtin.«sorted»
  refine wpAny_bind (m := checkCount "sorted" 1 1 _) (wpAny_pure ?_)
  refine wpAny_bind (PySem.W.kdu_collect (A := X.A.in1) (PySem.W.kdl_dict (knd := mixKind X.prog X.w) (kvs := vs) (ep := ep) lo) (I.ok.hd hcalm) hat h16 fun h' tk acc hk hacc => ?_)
  have hal : acc.toList.length = ks.length := by rw [Array.length_toList, hacc.1, hl]
  have hS : StrsAre acc.toList ks := strs_at hal fun j v e => by
    obtain ⟨k, x, e1, e2⟩ := hacc.2 j v (by rw [← Array.getElem?_toList]; exact e)
    have e3 : (vs.map (·.1))[j]? = some k := by rw [List.getElem?_map, e1]; all_goals rfl
    rw [hkeys, List.getElem?_map] at e3
    cases e4 : ks[j]? with
    | none => rw [e4] at e3; cases e3
    | some y =>
      rw [e4] at e3
      have e5 : Sum.inr y = k := Option.some.inj e3
      subst e5
      obtain ⟨t, ev⟩ := Value.isStrOf_shape (x := y) (v := v) e2
      exact ⟨y, t, rfl, ev⟩
  have I1 : Inv X pins σ H { s with heap := h', toks := tk } := I.kept hk
  refine wpAny_bind (wpAny_newList ?_ (by rw [hal, sizeLine_eq]; omega))
  have hoL : (h'.push (seqObj "list" acc.toList.toArray 0)).get? h'.objs.size = some (seqObj "list" acc.toList.toArray 0) := Heap.get?_push_size _ rfl
  show wpAny _ _ _ _ _ { s with heap := h'.push (seqObj "list" acc.toList.toArray 0), toks := tk }
  refine wpAny_bind (wpAny_holding (wpAny_call_entry PyProof.Rows.slot_list_sort ⟨_, hoL, rfl⟩ PyProof.Rows.entry_list_sort
    (list_sort_treeKAny strKind_oneLt (s := { s with heap := h'.push (seqObj "list" acc.toList.toArray 0), toks := tk }) hoL hS.keysOf (fun v₁ v₂ rest e => keyKind_strs (by rw [← e]; exact hS)) (by rw [hal, sizeLine_eq]; omega) fun st' hp hs => ⟨_, rfl, ?_⟩)
    (PyProof.Rows.args_list_sort _)))
  obtain ⟨ys, g1, g2, g3⟩ := sorted_out_str hS hp hs
  obtain ⟨e', he'⟩ := PyProof.Rows.sortedHeap_at (vs := acc.toList) (out := (arrOf st').map (·.2)) hoL
  have hlen : (ys.map V.str).length ≤ sizeLine := by
    rw [List.length_map, g2.length_eq, sizeLine_eq]
    omega
  refine wpAny_pure ⟨_, rfl, .ref h'.objs.size, upd H h'.objs.size (.lst (ys.map V.str)), I1.laid (t' := tk) (fun b u e => ?_) (Nat.le_refl _)
    (show ObjOk X.prog X.w _ _ _ (.lst (ys.map V.str)) from ⟨hlen, ((arrOf st').map (·.2)).toList, e', vals_of_strs g1, by rw [Array.toArray_toList]; exact he'⟩), rfl, q ys _ g2 g3 (I1.hok.fresh (Nat.le_refl _))⟩
  have hb : b < h'.objs.size := Heap.lt_size e
  rw [PyProof.Rows.sortedHeap_old (Nat.ne_of_lt hb) (by rw [size_push']; exact Nat.lt_succ_of_lt hb)]
  exact Heap.get?_push_of_some _ e
end
/-! ### rows of texts in order -/
def leS (a b : Str) : Prop := ¬ b.cps.toList < a.cps.toList
theorem leS.tr {a b c : Str} (h : leS a b) (k : leS b c) : leS a c := fun z =>
  absurd z (List.not_lt.mpr (List.le_trans (show a.cps.toList ≤ b.cps.toList from h) (show b.cps.toList ≤ c.cps.toList from k)))
theorem leS.eq {a b : Str} (h : leS a b) (k : leS b a) : a = b := by
  have e : a.cps.toList = b.cps.toList := List.le_antisymm (show a.cps.toList ≤ b.cps.toList from h) (show b.cps.toList ≤ a.cps.toList from k)
  cases a with
  | mk x => cases b with
    | mk y =>
      have e' : x = y := Array.toList_inj.mp e
      rw [e']
theorem leS.refl (a : Str) : leS a a := List.lt_irrefl _
theorem rising_le : ∀ (l : List Str) (p : Str), risingS p l = true → (p :: l).Pairwise leS
  | [], p, _ => List.pairwise_singleton _ _
  | x :: r, p, h => by
    have h' : (!ltCps x.cps.toList p.cps.toList && risingS x r) = true := h
    rw [Bool.and_eq_true] at h'
    have ih := rising_le r x h'.2
    have le : leS p x := fun z => by
      have := h'.1
      rw [ltCps_eq, decide_eq_true z] at this
      cases this
    refine List.pairwise_cons.mpr ⟨fun y hy => ?_, ih⟩
    rcases List.mem_cons.mp hy with rfl | hy
    · exact le
    · exact le.tr ((List.pairwise_cons.mp ih).1 y hy)
theorem sorted_le : ∀ {l : List Str}, sortedS l = true → l.Pairwise leS
  | [], _ => .nil
  | x :: r, h => rising_le r x h
/-- ascending, without doubles -/
structure Asc (l : List Str) : Prop where
  le : l.Pairwise leS
  nd : l.Nodup
theorem Asc.uniq : ∀ {l m : List Str}, Asc l → Asc m → (∀ x, x ∈ l ↔ x ∈ m) → l = m := fun {l m} hl hm h => by
  have p : l.Perm m := (List.perm_ext_iff_of_nodup hl.nd hm.nd).mpr h
  exact List.Perm.eq_of_pairwise (fun a b _ _ h k => leS.eq h k) hl.le hm.le p
theorem asc_of {l ys : List Str} (h : ys.Perm l) (s : sortedS ys = true) (n : l.Nodup) : Asc ys ∧ ∀ x, x ∈ ys ↔ x ∈ l :=
  ⟨⟨sorted_le s, h.nodup_iff.mpr n⟩, fun x => h.mem_iff⟩
/-- one more text, not less than those that stand -/
theorem Asc.snoc {l : List Str} {x : Str} (h : Asc l) (k : ∀ y ∈ l, leS y x) (n : l.getLast? ≠ some x) : Asc (l ++ [x]) := by
  have no : x ∉ l := fun m => by
    cases e : l.getLast? with
    | none => rw [List.getLast?_eq_none_iff] at e; rw [e] at m; cases m
    | some z =>
      obtain ⟨r, rfl⟩ := List.getLast?_eq_some_iff.mp e
      have hz : leS z x := k z (List.mem_append_right _ List.mem_cons_self)
      rcases List.mem_append.mp m with m | m
      · have hx : leS x z := (List.pairwise_append.mp h.le).2.2 x m z List.mem_cons_self
        exact n (by rw [e, hz.eq hx])
      · exact n (by rw [e, List.mem_singleton.mp m])
  refine ⟨List.pairwise_append.mpr ⟨h.le, List.pairwise_singleton _ _, fun a ha b hb => ?_⟩, List.nodup_append.mpr ⟨h.nd, List.nodup_cons.mpr ⟨List.not_mem_nil, List.nodup_nil⟩, fun a ha b hb e => ?_⟩⟩
  · rw [List.mem_singleton.mp hb]
    exact k a ha
  · rw [List.mem_singleton.mp hb] at e
    exact no (e ▸ ha)
/-! ### keys of a dict that are texts -/
theorem putK_keys {kvs : List (Key × V)} {ns : List Str} (h : kvs.map (·.1) = ns.map Sum.inr) (x : Str) (v : V) : (putK kvs (Sum.inr x) v).map (·.1) = (if x ∈ ns then ns else ns ++ [x]).map Sum.inr := by
  have a : (kvs.any fun kv => decide (kv.1 = Sum.inr x)) = decide (x ∈ ns) := by
    have e : (kvs.any fun kv => decide (kv.1 = Sum.inr x)) = (kvs.map (·.1)).any fun k => decide (k = Sum.inr x) := by rw [List.any_map]; rfl
    rw [e, h, List.any_map]
    clear h e
    induction ns with
    | nil => rfl
    | cons n ns ih =>
      rw [List.any_cons, ih]
      by_cases q : n = x
      · subst q
        simp
      · have : ¬ x = n := fun z => q z.symm
        simp [q, this]
  unfold putK
  rw [a]
  by_cases q : x ∈ ns
  · rw [if_pos (decide_eq_true q), if_pos q, List.map_map, ← h]
    refine List.map_congr_left fun kv _ => ?_
    show (if kv.1 = Sum.inr x then (kv.1, v) else kv).1 = kv.1
    split <;> rfl
  · rw [if_neg (by rw [decide_eq_false q]; exact Bool.false_ne_true), if_neg q, List.map_append, List.map_append, h]
    rfl
/-- what is kept but the dict d -/
structure Kd (d : Addr) (H H' : Hp) : Prop where
  st : ∀ a o, a ≠ d → H a = some o → H' a = some o
  d1 : ∃ kvs, H d = some (.dK kvs)
  d2 : ∃ kvs, H' d = some (.dK kvs)
theorem Kd.trans {d : Addr} {H H1 H2 : Hp} (a : Kd d H H1) (b : Kd d H1 H2) : Kd d H H2 := ⟨fun x o n e => b.st x o n (a.st x o n e), a.d1, b.d2⟩
theorem Kd.of_same {d : Addr} {H H' : Hp} {kvs : List (Key × V)} (h : H d = some (.dK kvs)) (s : Same H H') : Kd d H H' := ⟨fun x o _ e => s x o e, ⟨_, h⟩, ⟨_, s _ _ h⟩⟩
theorem Kd.put {d : Addr} {H : Hp} {kvs kvs' : List (Key × V)} (h : H d = some (.dK kvs)) : Kd d H (upd H d (.dK kvs')) := ⟨fun x o n e => by rw [upd_ne n]; exact e, ⟨_, h⟩, ⟨_, upd_same⟩⟩
theorem Kd.tup {d : Addr} {K : PySem.W.Frag} {H H' : Hp} {a : Addr} {xs : List V} (k : Kd d H H') (h : SqT K H a xs) : SqT K H' a xs := by
  have no : ∀ o, H a = some o → (∀ ys, o ≠ .dK ys) → a ≠ d := fun o e n m => by
    obtain ⟨ys, e2⟩ := k.d1
    rw [m, e2] at e
    exact n ys (Option.some.inj e).symm
  rcases h with (h | ⟨o, h⟩) | h
  · exact .inl (.inl (k.st _ _ (no _ h fun _ z => nomatch z) h))
  · exact .inl (.inr ⟨o, k.st _ _ (no _ h fun _ z => nomatch z) h⟩)
  · exact .inr h
theorem Kd.dp {d : Addr} {K : PySem.W.Frag} {H H' : Hp} (k : Kd d H H') {v : V} {x : PyData} (f : flatD x = true) (h : Dp K H v x) : Dp K H' v x := dp_keep (fun _ _ q => k.tup q) _ _ f h
theorem Kd.dps {d : Addr} {K : PySem.W.Frag} {H H' : Hp} (k : Kd d H H') {vs : List V} {ds : List PyData} (f : flatDs ds = true) (h : DpAll K H vs ds) : DpAll K H' vs ds := dps_keep (fun _ _ q => k.tup q) _ _ f h
/-- a comprehension over data, of any size -/
theorem lc_dataW {K : PySem.W.Frag} {J : It} {n : Nat} {G : Hp → Prop} {Y : Nat → Hp → V → Hp → Prop} (wk : Walk J n G Y) {g : TG} {tt : TT} {te : TE} {vs : List Nat} {σ : L2.St} {H1 : Hp} {D : Addr} {Qd : Hp → Prop} (R : Nat → Option PyData)
    (hD : H1 D = Option.none) (hn : n ≤ 16000000) (hG : ∀ H, Same H1 H → G H) (hfl : ∀ i < n, ∀ d, R i = some d → flatD d = true)
    (hs : ∀ i x H H', i < n → Same H1 H → Y i H x H' → ∀ (Q1 : VK) (Q0 : Hp → Prop), (∀ v H4 d, R i = some d → Same H H4 → Dp K H4 v d → Q1 v H4) → (∀ H3, R i = none → Same H H3 → Q0 H3) →
      g x (wipe σ vs) H' fun σ2 H2 => wipe σ2 vs = wipe σ vs ∧ tt σ2 H2 fun b H3 => if b = true then te σ2 H3 Q1 else Q0 H3)
    (hd : ∀ H acc, Same H1 H → H D = some (.lst acc) → DpAll K H acc ((List.range n).filterMap R) → Qd H) :
    ∃ W : Nat → Nat → Hp → Prop, (∃ m, W 0 m (upd H1 D (.lst []))) ∧ ∀ i m H, W i m H →
      (J.stop i H ∧ Qd H) ∨ (J.go i H ∧ ∃ Nx : Hp → Prop, (∀ H', Nx H' → ∃ m', m' < m ∧ W (i + 1) m' H') ∧ ∀ x H', J.yld i H x H' → g x (wipe σ vs) H' fun σ2 H2 => wipe σ2 vs = wipe σ vs ∧ tt σ2 H2 fun b H3 =>
        if b = true then te σ2 H3 fun y H4 => ∃ acc, H4 D = some (.lst acc) ∧ acc.length < sizeLine ∧ Nx (upd H4 D (.lst (acc ++ [y]))) else Nx H3) := by
  have fl : ∀ i ≤ n, flatDs ((List.range i).filterMap R) = true := fun i hi => flatDs_of _ fun d hd => by
    obtain ⟨j, hj, e⟩ := List.mem_filterMap.mp hd
    exact hfl j (by have := List.mem_range.mp hj; omega) d e
  refine lc_it wk (fun i H => ∃ acc, Same H1 H ∧ H D = some (.lst acc) ∧ DpAll K H acc ((List.range i).filterMap R) ∧ acc.length ≤ i) ⟨[], same_new hD, upd_same, .nil, Nat.le_refl _⟩ (fun i H _ z => ?_) ?_ ?_
  · obtain ⟨acc, s, _⟩ := z
    exact hG H s
  · rintro i x H H' hi ⟨acc, s, hacc, ha, hl⟩ y
    refine hs i x H H' hi s y _ _ (fun v H4 d e s4 hv => ?_) (fun H3 e s3 => ?_)
    · have hD4 := s4 _ _ hacc
      refine ⟨acc, hD4, (by rw [sizeLine_eq]; omega), acc ++ [v], same_put (s.trans s4) hD, upd_same, ?_, by rw [List.length_append]; exact Nat.succ_le_succ hl⟩
      rw [List.range_succ, List.filterMap_append]
      have e1 : ([i].filterMap R) = [d] := by simp [e]
      rw [e1]
      exact DpAll.snoc (dp_keep (fun _ _ q => sqt_put hD4 q) _ _ (hfl i hi d e) hv) (dps_keep (fun _ _ q => sqt_put hD4 q) _ _ (fl i (by omega)) (dps_same s4 _ _ ha))
    · refine ⟨acc, s.trans s3, s3 _ _ hacc, ?_, by omega⟩
      rw [List.range_succ, List.filterMap_append]
      have e1 : ([i].filterMap R) = [] := by simp [e]
      rw [e1, List.append_nil]
      exact dps_same s3 _ _ ha
  · rintro H ⟨acc, s, hacc, ha, _⟩
    exact hd H acc s hacc ha
end Cm

/-! a comprehension that draws, with a word on what was made so far -/
namespace Cm
open PySem L2 PySem.Spec PyProof.Rows
theorem lc_drawJ {K : PySem.W.Frag} {M : Addr → Prop} {I : It} {n : Nat} {G : Hp → Prop} {Y : Nat → Hp → V → Hp → Prop} (wk : Walk I n G Y) {g : TG} {tt : TT} {te : TE} {vs : List Nat} {σ : L2.St} {H1 : Hp} {D : Addr} {Qd : Hp → Prop}
    (J : Nat → List PyData → Hp → Prop) (hM : ∀ a, M a → ∃ xs, H1 a = some (.lst xs)) (h0 : J 0 [] (upd H1 D (.lst []))) (hJ : ∀ i ds H ys, Kp M H1 H → J i ds H → J i ds (upd H D (.lst ys)))
    (hD : H1 D = Option.none) (hn : n ≤ 100000) (hG : ∀ i ds H, Kp M H1 H → J i ds H → G H) (hfl : ∀ i ds H, J i ds H → flatDs ds = true)
    (hs : ∀ i x ds H H', i < n → Kp M H1 H → J i ds H → Y i H x H' → ∀ (Q1 : VK) (Q0 : Hp → Prop), (∀ v H4 d, Kp M H H4 → J (i + 1) (ds ++ [d]) H4 → Dp K H4 v d → Q1 v H4) → (∀ H3, Kp M H H3 → J (i + 1) ds H3 → Q0 H3) →
      g x (wipe σ vs) H' fun σ2 H2 => wipe σ2 vs = wipe σ vs ∧ tt σ2 H2 fun b H3 => if b = true then te σ2 H3 Q1 else Q0 H3)
    (hd : ∀ H acc ds, Kp M H1 H → J n ds H → H D = some (.lst acc) → DpAll K H acc ds → Qd H) :
    ∃ W : Nat → Nat → Hp → Prop, (∃ m, W 0 m (upd H1 D (.lst []))) ∧ ∀ i m H, W i m H →
      (I.stop i H ∧ Qd H) ∨ (I.go i H ∧ ∃ Nx : Hp → Prop, (∀ H', Nx H' → ∃ m', m' < m ∧ W (i + 1) m' H') ∧ ∀ x H', I.yld i H x H' → g x (wipe σ vs) H' fun σ2 H2 => wipe σ2 vs = wipe σ vs ∧ tt σ2 H2 fun b H3 =>
        if b = true then te σ2 H3 fun y H4 => ∃ acc, H4 D = some (.lst acc) ∧ acc.length < sizeLine ∧ Nx (upd H4 D (.lst (acc ++ [y]))) else Nx H3) := by
  have nM : ¬ M D := fun m => by
    obtain ⟨xs, e⟩ := hM D m
    rw [hD] at e
    cases e
  refine lc_it wk (fun i H => ∃ acc ds, Kp M H1 H ∧ J i ds H ∧ H D = some (.lst acc) ∧ DpAll K H acc ds ∧ acc.length ≤ i) ⟨[], [], Kp.new hM hD, h0, upd_same, .nil, Nat.le_refl _⟩ (fun i H _ z => ?_) ?_ ?_
  · obtain ⟨acc, ds, s, j, _⟩ := z
    exact hG i ds H s j
  · rintro i x H H' hi ⟨acc, ds, s, j, hacc, ha, hl⟩ y
    refine hs i x ds H H' hi s j y _ _ (fun v H4 d s4 j4 hv => ?_) (fun H3 s3 j3 => ?_)
    · have hD4 := s4.st _ _ nM hacc
      have f4 := hfl _ _ _ j4
      have f1 : flatDs ds = true := hfl _ _ _ j
      have f2 : flatD d = true := flatDs_all f4 d (List.mem_append_right _ (List.mem_singleton.mpr rfl))
      refine ⟨acc, hD4, Nat.lt_of_le_of_lt hl (Nat.lt_of_lt_of_le (show i < 100000 by omega) (by decide)), acc ++ [v], ds ++ [d], (s.trans s4).mut hD, hJ _ _ _ _ (s.trans s4) j4, upd_same, ?_, by rw [List.length_append]; exact Nat.succ_le_succ hl⟩
      exact DpAll.snoc (dp_keep (fun _ _ q => sqt_put hD4 q) _ _ f2 hv) (dps_keep (fun _ _ q => sqt_put hD4 q) _ _ f1 (dps_keep (fun _ _ q => s4.tup q) _ _ f1 ha))
    · exact ⟨acc, ds, s.trans s3, j3, s3.st _ _ nM hacc, dps_keep (fun _ _ q => s3.tup q) _ _ (hfl _ _ _ j) ha, by omega⟩
  · rintro H ⟨acc, ds, s, j, hacc, ha, _⟩
    exact hd H acc ds s j hacc ha
/-- a built-in method with arguments, where K is said -/
theorem ke_bm {X : Cx} {K : PySem.W.Frag} {T : String} {name : Str} {id : String} {r : V → List V → Hp → VK → Prop} {o e : Expr} {es : List Expr} {to : TE} {t : TA} {apos cpos : Pos} (pa : PlainAttrs T) (slot : Slot T name id)
    (hty : typeOf (.builtin id) = pure (.type "method_descriptor")) (hm : MtR X id r) (ho : PE X o to) (ha : PA X (e :: es) t) (hK : X.K = K := by rfl) (b1 : attributeBase o name X.env (eval o X.env) = eval o X.env := by rfl)
    (b2 : ((backTo cpos (starEach (e :: es) X.env)).all (fun x => !x.1) && (backToKw cpos (keywordEach [] X.env)).all (fun x => x.1.isSome) && decide ((e :: es).length + ([] : List Keyword).length + (if ([] : List Keyword).isEmpty then 0 else 1) < 30)) = true := by rfl)
    (b3 : (apos.endLine == cpos.line) = true := by rfl) (b4 : starEach (e :: es) X.env = (false, eval e X.env) :: starEach es X.env := by rfl) (b5 : (backTo cpos (starEach es X.env)).any (·.1) = false := by rfl) :
    PE X (.Call (.Attribute o name apos) (e :: es) [] cpos) (tBM K T r to t) := by
  subst hK
  exact pe_bm pa slot hty hm ho ha b1 b2 b3 b4 b5
end Cm

/-! trees that are drawn: the hand and the room -/
namespace Cm
open PySem L2 PySem.Spec PyProof.Rows
/-- the hand at h, the room k at r -/
structure Gn (H : Hp) (h c r : Addr) (k : Nat) : Prop where
  hand : Hand H h c
  rm : H r = some (.lst [.int (k : Nat)])
  rh : r ≠ h
  rc : r ≠ c
abbrev Kr (h r : Addr) : Hp → Hp → Prop := Kp (fun a => a = h ∨ a = r)
theorem Gn.lists {H : Hp} {h c r : Addr} {k : Nat} (x : Gn H h c r k) : ∀ a, (a = h ∨ a = r) → ∃ xs, H a = some (.lst xs) := fun a m => by
  rcases m with rfl | rfl
  · exact x.hand.lst
  · exact ⟨_, x.rm⟩
theorem Gn.refl {H : Hp} {h c r : Addr} {k : Nat} (x : Gn H h c r k) : Kr h r H H := Kp.refl x.lists
theorem Gn.same {H H' : Hp} {h c r : Addr} {k : Nat} (x : Gn H h c r k) (s : Same H H') : Gn H' h c r k ∧ Kr h r H H' := ⟨⟨x.hand.same s, s _ _ x.rm, x.rh, x.rc⟩, .of_same x.lists s⟩
theorem Gn.draw {H H' : Hp} {h c r : Addr} {k : Nat} (x : Gn H h c r k) (kh : Kh h H H') (hh : Hand H' h c) : Gn H' h c r k ∧ Kr h r H H' :=
  ⟨⟨hh, kh.st _ _ x.rh x.rm, x.rh, x.rc⟩, kh.wider (fun _ m => .inl m) x.lists⟩
theorem Gn.puts {H : Hp} {h c r D : Addr} {o : HO} {k : Nat} (x : Gn H h c r k) (n1 : D ≠ h) (n2 : D ≠ c) (n3 : D ≠ r) : Gn (upd H D o) h c r k :=
  ⟨x.hand.puts n1 n2, by rw [upd_ne n3.symm]; exact x.rm, x.rh, x.rc⟩
/-- the room is one less -/
theorem Gn.less {H : Hp} {h c r : Addr} {k : Nat} (x : Gn H h c r (k + 1)) : Gn (upd H r (.lst [.int (k : Nat)])) h c r k ∧ Kr h r H (upd H r (.lst [.int (k : Nat)])) :=
  ⟨⟨x.hand.puts x.rh x.rc, upd_same, x.rh, x.rc⟩, Kp.put x.lists (.inr rfl)⟩
theorem sizes_snoc (t : Tr) : ∀ ts : List Tr, Tr.sizes (ts ++ [t]) = Tr.sizes ts + t.size
  | [] => by show t.size + 0 = 0 + t.size; omega
  | a :: ts => by
    have := sizes_snoc t ts
    show a.size + Tr.sizes (ts ++ [t]) = a.size + Tr.sizes ts + t.size
    omega
/-- a comprehension of drawn trees: F says how they lie in the list, E how one of them does -/
theorem lc_gen {K : PySem.W.Frag} {h c r : Addr} {k : Nat} {I : It} {n : Nat} {G : Hp → Prop} {Y : Nat → Hp → V → Hp → Prop} (wk : Walk I n G Y) {g : TG} {te : TE} {vs : List Nat} {σ : L2.St} {H1 : Hp} {D : Addr} {Qd : Hp → Prop}
    (F : List Tr → List PyData) (E : Nat → Tr → PyData) (dm cost : Nat) (F0 : F [] = []) (FS : ∀ ts t, ts.length < n → F (ts ++ [t]) = F ts ++ [E ts.length t]) (Fl : ∀ ts, flatDs (F ts) = true)
    (x0 : Gn H1 h c r k) (hD : H1 D = Option.none) (hn : n ≤ 100000) (hG : ∀ H, Kr h r H1 H → G H)
    (hs : ∀ i x k1 H H', i < n → Kr h r H1 H → Gn H h c r k1 → Y i H x H' → ∀ Q1 : VK, (∀ v t k2 H4, Kr h r H H4 → Gn H4 h c r k2 → Dp K H4 v (E i t) → t.ok → t.dep ≤ dm → t.size + 12 * k2 ≤ cost + 12 * k1 → Q1 v H4) →
      g x (wipe σ vs) H' fun σ2 H2 => wipe σ2 vs = wipe σ vs ∧ te σ2 H2 Q1)
    (hd : ∀ H acc ts k1, Kr h r H1 H → Gn H h c r k1 → H D = some (.lst acc) → DpAll K H acc (F ts) → ts.length = n → (∀ t ∈ ts, t.ok ∧ t.dep ≤ dm) → Tr.sizes ts + 12 * k1 ≤ cost * n + 12 * k → Qd H) :
    ∃ W : Nat → Nat → Hp → Prop, (∃ m, W 0 m (upd H1 D (.lst []))) ∧ ∀ i m H, W i m H →
      (I.stop i H ∧ Qd H) ∨ (I.go i H ∧ ∃ Nx : Hp → Prop, (∀ H', Nx H' → ∃ m', m' < m ∧ W (i + 1) m' H') ∧ ∀ x H', I.yld i H x H' → g x (wipe σ vs) H' fun σ2 H2 => wipe σ2 vs = wipe σ vs ∧ tYes σ2 H2 fun b H3 =>
        if b = true then te σ2 H3 fun y H4 => ∃ acc, H4 D = some (.lst acc) ∧ acc.length < sizeLine ∧ Nx (upd H4 D (.lst (acc ++ [y]))) else Nx H3) := by
  have nD := x0.hand.there hD
  have nDr : D ≠ r := (ne_of_none x0.rm hD).symm
  refine lc_drawJ (K := K) (M := fun a => a = h ∨ a = r) wk (fun i ds H => ∃ ts k1, ds = F ts ∧ Gn H h c r k1 ∧ ts.length = i ∧ (∀ t ∈ ts, t.ok ∧ t.dep ≤ dm) ∧ Tr.sizes ts + 12 * k1 ≤ cost * i + 12 * k) x0.lists
    ⟨[], k, F0.symm, (x0.same (same_new hD)).1, rfl, (fun _ m => by cases m), (by show 0 + 12 * k ≤ cost * 0 + 12 * k; omega)⟩ (fun i ds H ys _ j => ?_) hD hn (fun _ _ H kk _ => hG H kk) (fun i ds H j => ?_) ?_ ?_
  · obtain ⟨ts, k1, a1, a2, a3⟩ := j
    exact ⟨ts, k1, a1, a2.puts nD.1 nD.2 nDr, a3⟩
  · obtain ⟨ts, k1, rfl, _⟩ := j
    exact Fl ts
  · rintro i x ds H H' hi kk ⟨ts, k1, rfl, a2, a3, a4, a5⟩ y Q1 Q0 q1 q0
    refine hs i x k1 H H' hi kk a2 y Q1 fun v t k2 H4 k4 x4 hv ok dp sz => ?_
    refine q1 v H4 (E i t) k4 ⟨ts ++ [t], k2, ?_, x4, ?_, ?_, ?_⟩ hv
    · rw [FS ts t (by omega), a3]
    · rw [List.length_append, a3]; rfl
    · intro u hu
      rcases List.mem_append.mp hu with hu | hu
      · exact a4 u hu
      · cases List.mem_singleton.mp hu
        exact ⟨ok, dp⟩
    · rw [sizes_snoc, Nat.mul_succ]
      omega
  · rintro H acc ds kk ⟨ts, k1, rfl, a2, a3, a4, a5⟩ hacc ha
    exact hd H acc ts k1 kk a2 hacc ha a3 a4 a5
theorem encL_snoc (t : Tr) (ts : List Tr) : Tr.encL (ts ++ [t]) = Tr.encL ts ++ [t.enc] := by
  rw [encL_map, encL_map, List.map_append]
  rfl
/-- rows of names and trees -/
def rowsL (xs : List Str) (ts : List Tr) : List PyData := (xs.zip (Tr.encL ts)).map rowD
theorem rowsL_snoc {t : Tr} : ∀ {xs : List Str} {ts : List Tr}, ts.length < xs.length → rowsL xs (ts ++ [t]) = rowsL xs ts ++ [rowD ((xs[ts.length]?).getD "", t.enc)]
  | x :: xs, [], _ => by simp [rowsL, Tr.encL]
  | x :: xs, a :: ts, h => by
    have ih := rowsL_snoc (t := t) (xs := xs) (ts := ts) (by simpa using h)
    show rowD (x, a.enc) :: rowsL xs (ts ++ [t]) = rowD (x, a.enc) :: rowsL xs ts ++ _
    rw [ih]
    rfl
theorem rowsL_flat (xs : List Str) (ts : List Tr) : flatDs (rowsL xs ts) = true := flatDs_of _ fun d hd => by
  obtain ⟨p, hp, rfl⟩ := List.mem_map.mp hd
  have h := (List.of_mem_zip (show (p.1, p.2) ∈ xs.zip (Tr.encL ts) from hp)).2
  have := flatDs_all (flat_encL ts) _ h
  simp [rowD, flatD, flatDs, this]
end Cm

set_option linter.all false
/-! the names that forms bind -/
namespace Cm
open PySem L2 PySem.Spec PyProof.Rows
/-- the names that a form binds -/
def held : Hd → List Str
  | .fn xs => xs
  | .one w x => if w = "set" then [] else [x]
  | .bind _ xs => xs
  | _ => []
def isLet : Hd → Bool
  | .bind w _ => decide (w = "let")
  | _ => false
def isTak : Hd → Bool
  | .one w _ => !decide (w = "set")
  | _ => false
def isFn (h : Hd) : Bool := kd h == 4
def isName (h : Hd) : Bool := kd h == 1
/-- .. over the i-th of n parts -/
def under (h : Hd) (n i : Nat) : List Str := if isLet h = true ∧ i + 1 < n then [] else held h
def bnds (h : Hd) (n : Nat) : List PyData := (List.range n).map fun i => encs (under h n i)
theorem under_no {h : Hd} (e : isLet h = false) (n i : Nat) : under h n i = held h := by
  unfold under
  rw [e, if_neg (fun z => Bool.false_ne_true z.1)]
theorem bnds_no {h : Hd} (e : isLet h = false) (n : Nat) : bnds h n = List.replicate n (encs (held h)) := by
  unfold bnds
  have : (fun i => encs (under h n i)) = fun _ => encs (held h) := by
    funext i
    rw [under_no e]
  rw [this, List.map_const', List.length_range]
theorem bnds_let {h : Hd} (e : isLet h = true) (n : Nat) : bnds h (n + 1) = List.replicate n (encs []) ++ [encs (held h)] := by
  unfold bnds
  rw [List.range_succ, List.map_append]
  have h1 : (List.range n).map (fun i => encs (under h (n + 1) i)) = List.replicate n (encs []) := by
    have : (List.range n).map (fun i => encs (under h (n + 1) i)) = (List.range n).map (fun _ => encs []) := List.map_congr_left fun i hi => by
      have := List.mem_range.mp hi
      unfold under
      rw [if_pos ⟨e, by omega⟩]
    rw [this, List.map_const', List.length_range]
  rw [h1]
  congr 1
  show [encs (under h (n + 1) n)] = _
  unfold under
  rw [if_neg (fun z => by omega)]
theorem flat_bnds (h : Hd) (n : Nat) : flatDs (bnds h n) = true := flatDs_of _ fun d hd => by
  obtain ⟨i, _, rfl⟩ := List.mem_map.mp hd
  exact flat_strs _
theorem under_at {h : Hd} {n i : Nat} (hi : i < n) : (bnds h n)[i]? = some (encs (under h n i)) := by
  unfold bnds
  rw [List.getElem?_map, List.getElem?_range hi]
  rfl
theorem under_len {h : Hd} {m : Nat} (o : hok h m) (l : m ≤ 11) (n i : Nat) : (under h n i).length ≤ 100 := by
  unfold under
  split
  · exact Nat.zero_le _
  · cases h with
    | fn xs => exact o.2.1
    | one w x =>
      show (if w = "set" then [] else [x] : List Str).length ≤ 100
      split
      · exact Nat.zero_le _
      · exact (by decide : 1 ≤ 100)
    | bind w xs =>
      have := o.1
      show xs.length ≤ 100
      omega
    | _ => exact Nat.zero_le _
theorem held_sok {h : Hd} {m : Nat} (o : hok h m) : ∀ x ∈ held h, sok x := by
  cases h with
  | fn xs => exact o.2.2
  | one w x =>
    show ∀ y ∈ (if w = "set" then [] else [x] : List Str), sok y
    split
    · intro y hy; cases hy
    · intro y hy
      rw [List.mem_singleton.mp hy]
      exact o.2.2
  | bind w xs => exact o.2.2
  | _ => intro y hy; cases hy
section
variable {h : Hd} {n : Nat}
theorem eq_fn (o : hok h n) : decide (V.str (wd h) = V.str "fn") = isFn h := by
  rw [decS]
  exact by_kind (fun w => decide (w = "fn")) (fun k => k == 4) (by decide +kernel) o
theorem eq_name (o : hok h n) : decide (V.str (wd h) = V.str "name") = isName h := by
  rw [decS]
  exact by_kind (fun w => decide (w = "name")) (fun k => k == 1) (by decide +kernel) o
theorem in_T (o : hok h n) : inV (.str (wd h)) ((["keep", "once", "take"] : List Str).map V.str) = isTak h := by
  have other : kd h ≠ 3 → inV (.str (wd h)) ((["keep", "once", "take"] : List Str).map V.str) = false := fun q => by
    have key : ∀ c < 10, c ≠ 3 → ∀ w ∈ wordsOf c, inV (.str w) ((["keep", "once", "take"] : List Str).map V.str) = false := by decide +kernel
    exact key _ (wd_mem o).1 q _ (wd_mem o).2
  cases h with
  | one w x =>
    have key : ∀ w ∈ oneW, inV (.str w) ((["keep", "once", "take"] : List Str).map V.str) = !decide (w = "set") := by decide +kernel
    exact key w o.2.1
  | num i => exact other (Nat.ne_of_beq_eq_false rfl)
  | name i => exact other (Nat.ne_of_beq_eq_false rfl)
  | lit i => exact other (Nat.ne_of_beq_eq_false rfl)
  | fn i => exact other (Nat.ne_of_beq_eq_false rfl)
  | bind i _ => exact other (Nat.ne_of_beq_eq_false rfl)
  | doo => exact other (Nat.ne_of_beq_eq_false rfl)
  | call => exact other (Nat.ne_of_beq_eq_false rfl)
  | op i => exact other (Nat.ne_of_beq_eq_false rfl)
  | plain i => exact other (Nat.ne_of_beq_eq_false rfl)
theorem eq_set (o : hok h n) : decide (V.str (wd h) = V.str "set") = (kd h == 3 && !isTak h) := by
  have other : kd h ≠ 3 → decide (wd h = "set") = false := fun q => by
    have key : ∀ c < 10, c ≠ 3 → ∀ w ∈ wordsOf c, decide (w = ("set" : Str)) = false := by decide +kernel
    exact key _ (wd_mem o).1 q _ (wd_mem o).2
  rw [decS]
  cases h with
  | one w x =>
    show decide (w = "set") = (true && !(!decide (w = "set")))
    rw [Bool.not_not, Bool.true_and]
  | num i => exact other (Nat.ne_of_beq_eq_false rfl)
  | name i => exact other (Nat.ne_of_beq_eq_false rfl)
  | lit i => exact other (Nat.ne_of_beq_eq_false rfl)
  | fn i => exact other (Nat.ne_of_beq_eq_false rfl)
  | bind i _ => exact other (Nat.ne_of_beq_eq_false rfl)
  | doo => exact other (Nat.ne_of_beq_eq_false rfl)
  | call => exact other (Nat.ne_of_beq_eq_false rfl)
  | op i => exact other (Nat.ne_of_beq_eq_false rfl)
  | plain i => exact other (Nat.ne_of_beq_eq_false rfl)
theorem eq_let (o : hok h n) : decide (V.str (wd h) = V.str "let") = isLet h := by
  have other : kd h ≠ 5 → decide (wd h = "let") = false := fun q => by
    have key : ∀ c < 10, c ≠ 5 → ∀ w ∈ wordsOf c, decide (w = ("let" : Str)) = false := by decide +kernel
    exact key _ (wd_mem o).1 q _ (wd_mem o).2
  rw [decS]
  cases h with
  | bind w x => rfl
  | num i => exact other (Nat.ne_of_beq_eq_false rfl)
  | name i => exact other (Nat.ne_of_beq_eq_false rfl)
  | lit i => exact other (Nat.ne_of_beq_eq_false rfl)
  | fn i => exact other (Nat.ne_of_beq_eq_false rfl)
  | one i _ => exact other (Nat.ne_of_beq_eq_false rfl)
  | doo => exact other (Nat.ne_of_beq_eq_false rfl)
  | call => exact other (Nat.ne_of_beq_eq_false rfl)
  | op i => exact other (Nat.ne_of_beq_eq_false rfl)
  | plain i => exact other (Nat.ne_of_beq_eq_false rfl)
end
/-- the names that a tree names (or sets alone), as the form of a list -/
def own (sa : Bool) : Hd → List Str
  | .name x => if sa = true then [] else [x]
  | .one w x => if w = "set" then [x] else []
  | _ => []
mutual
def Tr.free (sa : Bool) : Tr → List Str
  | .mk h ps => own sa h ++ Tr.frees sa h ps.length 0 ps
def Tr.frees (sa : Bool) (h : Hd) (n : Nat) : Nat → List Tr → List Str
  | _, [] => []
  | i, t :: ts => (t.free sa).filter (fun x => !decide (x ∈ under h n i)) ++ Tr.frees sa h n (i + 1) ts
end
theorem frees_snoc (sa : Bool) (h : Hd) (n : Nat) (t : Tr) : ∀ (ts : List Tr) (i : Nat), Tr.frees sa h n i (ts ++ [t]) = Tr.frees sa h n i ts ++ (t.free sa).filter (fun x => !decide (x ∈ under h n (i + ts.length)))
  | [], i => by
    show (t.free sa).filter _ ++ [] = [] ++ _
    simp
  | a :: ts, i => by
    show (a.free sa).filter _ ++ Tr.frees sa h n (i + 1) (ts ++ [t]) = ((a.free sa).filter _ ++ Tr.frees sa h n (i + 1) ts) ++ _
    rw [frees_snoc sa h n t ts (i + 1), List.append_assoc, List.length_cons, show i + 1 + ts.length = i + (ts.length + 1) by omega]
theorem own_len (sa : Bool) (h : Hd) : (own sa h).length ≤ 1 := by
  cases h with
  | name x => show (if sa = true then [] else [x] : List Str).length ≤ 1; split <;> simp
  | one w x => show (if w = "set" then [x] else [] : List Str).length ≤ 1; split <;> simp
  | _ => exact Nat.zero_le _
mutual
theorem free_len (sa : Bool) : ∀ t : Tr, (t.free sa).length ≤ t.size
  | .mk h ps => by
    have h1 := own_len sa h
    have h2 := frees_len sa h ps.length 0 ps
    show (own sa h ++ Tr.frees sa h ps.length 0 ps).length ≤ Tr.sizes ps + 1
    rw [List.length_append]
    omega
theorem frees_len (sa : Bool) (h : Hd) (n : Nat) : ∀ (i : Nat) (ts : List Tr), (Tr.frees sa h n i ts).length ≤ Tr.sizes ts
  | _, [] => Nat.le_refl _
  | i, t :: ts => by
    have h1 := free_len sa t
    have h2 := frees_len sa h n (i + 1) ts
    have h3 := List.length_filter_le (fun x => !decide (x ∈ under h n i)) (t.free sa)
    show ((t.free sa).filter _ ++ Tr.frees sa h n (i + 1) ts).length ≤ t.size + Tr.sizes ts
    rw [List.length_append]
    omega
end
mutual
theorem free_sok (sa : Bool) : ∀ t : Tr, t.ok → ∀ x ∈ t.free sa, sok x
  | .mk h ps, o, x, m => by
    have o' : hok h ps.length ∧ ps.length ≤ 11 ∧ Tr.oks ps := o
    have m' : x ∈ own sa h ++ Tr.frees sa h ps.length 0 ps := m
    rcases List.mem_append.mp m' with m' | m'
    · cases h with
      | name y =>
        have m2 : x ∈ (if sa = true then [] else [y] : List Str) := m'
        split at m2
        · cases m2
        · rw [List.mem_singleton.mp m2]
          exact o'.1.2
      | one w y =>
        have m2 : x ∈ (if w = "set" then [y] else [] : List Str) := m'
        split at m2
        · rw [List.mem_singleton.mp m2]
          exact o'.1.2.2
        · cases m2
      | _ => cases m'
    · exact frees_sok sa h ps.length 0 ps o'.2.2 x m'
theorem frees_sok (sa : Bool) (h : Hd) (n : Nat) : ∀ (i : Nat) (ts : List Tr), Tr.oks ts → ∀ x ∈ Tr.frees sa h n i ts, sok x
  | _, [], _, _, m => by cases m
  | i, t :: ts, o, x, m => by
    have m' : x ∈ (t.free sa).filter (fun x => !decide (x ∈ under h n i)) ++ Tr.frees sa h n (i + 1) ts := m
    rcases List.mem_append.mp m' with m' | m'
    · exact free_sok sa t o.1 x (List.mem_filter.mp m').1
    · exact frees_sok sa h n (i + 1) ts o.2 x m'
end
end Cm

set_option linter.all false
/-! trees whose set names are held in pairs -/
namespace Cm
open PySem L2 PySem.Spec PyProof.Rows
/-- is x set within some part over which it is bound -/
def chg (h : Hd) (n : Nat) : Nat → List Tr → Str → Bool
  | _, [], _ => false
  | i, t :: ts, x => (decide (x ∈ under h n i) && decide (x ∈ t.free true)) || chg h n (i + 1) ts x
def anewOf (h : Hd) (ps : List Tr) : List Str := (held h).filter (chg h ps.length 0 ps)
def pairT (t : Tr) : Tr := .mk (.op "pair") [t, .mk (.lit "none") []]
def nameT (x : Str) : Tr := .mk (.name x) []
def fillT (x : Str) (t : Tr) : Tr := .mk (.op "left!") [nameT x, t]
def noneT : Tr := .mk (.lit "none") []
/-- the last part within a let of pairs -/
def wrapL (anew : List Str) (h : Hd) (qs : List Tr) : Tr :=
  if anew = [] then .mk h qs else .mk h (qs.take (qs.length - 1) ++ [.mk (.bind "let" anew) ((anew.map fun x => pairT (nameT x)) ++ qs.drop (qs.length - 1))])
def recP (xs anew : List Str) (qs : List Tr) : Tr :=
  let fills := ((xs.zip qs).filter fun r => decide (r.1 ∈ anew)).map fun r => fillT r.1 r.2
  let oth := (xs.zip qs).filter fun r => !decide (r.1 ∈ anew)
  let inner := Tr.mk .doo (fills ++ qs.drop xs.length)
  .mk (.bind "let" anew) ((anew.map fun _ => pairT noneT) ++ [if oth = [] then inner else .mk (.bind "rec" (oth.map (·.1))) (oth.map (·.2) ++ [inner])])
def shapeP (hs : Str → Bool) (anew : List Str) (qs : List Tr) : Hd → Tr
  | .name x => if hs x = true then .mk (.op "left") [nameT x] else .mk (.name x) qs
  | .one w x => if w = "set" then .mk (.op "left!") (nameT x :: qs) else wrapL anew (.one w x) qs
  | .bind w xs => if w = "rec" ∧ anew ≠ [] then recP xs anew qs else wrapL anew (.bind w xs) qs
  | h => wrapL anew h qs
/-- the names held within the i-th part -/
def scopeP (hs : Str → Bool) (h : Hd) (n : Nat) (anew : List Str) (i : Nat) (x : Str) : Bool := (hs x && !decide (x ∈ under h n i)) || (decide (x ∈ anew) && decide (x ∈ under h n i))
mutual
def Tr.plain (hs : Str → Bool) : Tr → Tr
  | .mk h ps => shapeP hs (anewOf h ps) (Tr.plains (scopeP hs h ps.length (anewOf h ps)) 0 ps) h
def Tr.plains (sc : Nat → Str → Bool) : Nat → List Tr → List Tr
  | _, [] => []
  | i, t :: ts => t.plain (sc i) :: Tr.plains sc (i + 1) ts
end
theorem plains_len (sc : Nat → Str → Bool) : ∀ (i : Nat) (ps : List Tr), (Tr.plains sc i ps).length = ps.length
  | _, [] => rfl
  | i, t :: ts => by
    show (Tr.plains sc (i + 1) ts).length + 1 = ts.length + 1
    rw [plains_len sc (i + 1) ts]
theorem plains_at (sc : Nat → Str → Bool) : ∀ (i : Nat) (ps : List Tr) (j : Nat), (Tr.plains sc i ps)[j]? = (ps[j]?).map fun (t : Tr) => t.plain (sc (i + j))
  | _, [], j => by simp [Tr.plains]
  | i, t :: ts, 0 => rfl
  | i, t :: ts, j + 1 => by
    show (Tr.plains sc (i + 1) ts)[j]? = _
    rw [plains_at sc (i + 1) ts j, List.getElem?_cons_succ, show i + 1 + j = i + (j + 1) by omega]
theorem plains_snoc (sc : Nat → Str → Bool) (t : Tr) : ∀ (i : Nat) (ps : List Tr), Tr.plains sc i (ps ++ [t]) = Tr.plains sc i ps ++ [t.plain (sc (i + ps.length))]
  | _, [] => rfl
  | i, a :: ts => by
    show a.plain (sc i) :: Tr.plains sc (i + 1) (ts ++ [t]) = a.plain (sc i) :: (Tr.plains sc (i + 1) ts ++ _)
    rw [plains_snoc sc t (i + 1) ts, List.length_cons, show i + 1 + ts.length = i + (ts.length + 1) by omega]
theorem chg_iff (h : Hd) (n : Nat) (x : Str) : ∀ (i : Nat) (ps : List Tr), chg h n i ps x = true ↔ ∃ j t, ps[j]? = some t ∧ x ∈ under h n (i + j) ∧ x ∈ t.free true
  | i, [] => by simp [chg]
  | i, t :: ts => by
    have ih := chg_iff h n x (i + 1) ts
    show ((decide (x ∈ under h n i) && decide (x ∈ t.free true)) || chg h n (i + 1) ts x) = true ↔ _
    rw [Bool.or_eq_true, Bool.and_eq_true, decide_eq_true_eq, decide_eq_true_eq, ih]
    constructor
    · rintro (⟨a, b⟩ | ⟨j, u, e, a, b⟩)
      · exact ⟨0, t, rfl, a, b⟩
      · exact ⟨j + 1, u, e, by rw [show i + (j + 1) = i + 1 + j by omega]; exact a, b⟩
    · rintro ⟨j, u, e, a, b⟩
      cases j with
      | zero => cases e; exact .inl ⟨a, b⟩
      | succ j => exact .inr ⟨j, u, e, by rw [show i + 1 + j = i + (j + 1) by omega]; exact a, b⟩
theorem plains_mem {sc : Nat → Str → Bool} {i : Nat} {ps : List Tr} {q : Tr} (m : q ∈ Tr.plains sc i ps) : ∃ (j : Nat) (t : Tr), ps[j]? = some t ∧ q = t.plain (sc (i + j)) := by
  obtain ⟨j, e⟩ := List.getElem?_of_mem m
  rw [plains_at] at e
  obtain ⟨t, e1, e2⟩ := Option.map_eq_some_iff.mp e
  exact ⟨j, t, e1, e2.symm⟩
/-! ### trees without set -/
def nsH : Hd → Prop
  | .one w _ => w ≠ "set"
  | _ => True
mutual
def Tr.ns : Tr → Prop
  | .mk h ps => nsH h ∧ Tr.nss ps
def Tr.nss : List Tr → Prop
  | [] => True
  | t :: ts => t.ns ∧ Tr.nss ts
end
theorem nss_iff : ∀ {ps : List Tr}, Tr.nss ps ↔ ∀ t ∈ ps, t.ns
  | [] => by simp [Tr.nss]
  | t :: ts => by
    show t.ns ∧ Tr.nss ts ↔ _
    rw [nss_iff]
    simp
theorem ns_mk {h : Hd} {ps : List Tr} (a : nsH h) (b : ∀ t ∈ ps, t.ns) : (Tr.mk h ps).ns := ⟨a, nss_iff.mpr b⟩
theorem ns_name (x : Str) : (nameT x).ns := ns_mk trivial fun t m => by cases m
theorem ns_none : noneT.ns := ns_mk trivial fun t m => by cases m
theorem ns_pair {t : Tr} (h : t.ns) : (pairT t).ns := ns_mk trivial fun u m => by
  rcases List.mem_cons.mp m with rfl | m
  · exact h
  · rw [List.mem_singleton.mp m]; exact ns_none
theorem ns_fill {x : Str} {t : Tr} (h : t.ns) : (fillT x t).ns := ns_mk trivial fun u m => by
  rcases List.mem_cons.mp m with rfl | m
  · exact ns_name x
  · rw [List.mem_singleton.mp m]; exact h
theorem ns_wrap {anew : List Str} {h : Hd} {qs : List Tr} (a : nsH h) (b : ∀ t ∈ qs, t.ns) : (wrapL anew h qs).ns := by
  unfold wrapL
  split
  · exact ns_mk a b
  · refine ns_mk a fun t m => ?_
    rcases List.mem_append.mp m with m | m
    · exact b t (List.mem_of_mem_take m)
    · rw [List.mem_singleton.mp m]
      refine ns_mk trivial fun u mu => ?_
      rcases List.mem_append.mp mu with mu | mu
      · obtain ⟨x, _, rfl⟩ := List.mem_map.mp mu
        exact ns_pair (ns_name x)
      · exact b u (List.mem_of_mem_drop mu)
theorem ns_rec {xs anew : List Str} {qs : List Tr} (b : ∀ t ∈ qs, t.ns) : (recP xs anew qs).ns := by
  have zp : ∀ r ∈ xs.zip qs, r.2.ns := fun r m => b r.2 (List.of_mem_zip (show (r.1, r.2) ∈ xs.zip qs from m)).2
  have inn : (Tr.mk .doo ((((xs.zip qs).filter fun r => decide (r.1 ∈ anew)).map fun r => fillT r.1 r.2) ++ qs.drop xs.length)).ns := ns_mk trivial fun t m => by
    rcases List.mem_append.mp m with m | m
    · obtain ⟨r, mr, rfl⟩ := List.mem_map.mp m
      exact ns_fill (zp r (List.mem_filter.mp mr).1)
    · exact b t (List.mem_of_mem_drop m)
  unfold recP
  refine ns_mk trivial fun t m => ?_
  rcases List.mem_append.mp m with m | m
  · obtain ⟨x, _, rfl⟩ := List.mem_map.mp m
    exact ns_pair ns_none
  · rw [List.mem_singleton.mp m]
    split
    · exact inn
    · refine ns_mk trivial fun u mu => ?_
      rcases List.mem_append.mp mu with mu | mu
      · obtain ⟨r, mr, rfl⟩ := List.mem_map.mp mu
        exact zp r (List.mem_filter.mp mr).1
      · rw [List.mem_singleton.mp mu]
        exact inn
theorem ns_shape {hs : Str → Bool} {anew : List Str} {qs : List Tr} (b : ∀ t ∈ qs, t.ns) (h : Hd) : (shapeP hs anew qs h).ns := by
  cases h with
  | name x =>
    show (if hs x = true then Tr.mk (.op "left") [nameT x] else .mk (.name x) qs).ns
    split
    · exact ns_mk trivial fun t m => by rw [List.mem_singleton.mp m]; exact ns_name x
    · exact ns_mk trivial b
  | one w x =>
    show (if w = "set" then Tr.mk (.op "left!") (nameT x :: qs) else wrapL anew (.one w x) qs).ns
    split
    · refine ns_mk trivial fun t m => ?_
      rcases List.mem_cons.mp m with rfl | m
      · exact ns_name x
      · exact b t m
    · rename_i e
      exact ns_wrap e b
  | bind w xs =>
    show (if w = "rec" ∧ anew ≠ [] then recP xs anew qs else wrapL anew (.bind w xs) qs).ns
    split
    · exact ns_rec b
    · exact ns_wrap trivial b
  | num i => exact ns_wrap trivial b
  | lit i => exact ns_wrap trivial b
  | fn i => exact ns_wrap trivial b
  | doo => exact ns_wrap trivial b
  | call => exact ns_wrap trivial b
  | op i => exact ns_wrap trivial b
  | plain i => exact ns_wrap trivial b
mutual
theorem ns_plain (hs : Str → Bool) : ∀ t : Tr, (t.plain hs).ns
  | .mk h ps => ns_shape (fun t m => nss_iff.mp (ns_plains _ 0 ps) t m) h
theorem ns_plains (sc : Nat → Str → Bool) : ∀ (i : Nat) (ps : List Tr), Tr.nss (Tr.plains sc i ps)
  | _, [] => trivial
  | i, t :: ts => ⟨ns_plain _ t, ns_plains sc (i + 1) ts⟩
end
mutual
theorem free_ns : ∀ t : Tr, t.ns → t.free true = []
  | .mk h ps, n => by
    have n' : nsH h ∧ Tr.nss ps := n
    show own true h ++ Tr.frees true h ps.length 0 ps = []
    rw [frees_ns h ps.length 0 ps n'.2, List.append_nil]
    cases h with
    | one w x => exact if_neg n'.1
    | _ => rfl
theorem frees_ns (h : Hd) (n : Nat) : ∀ (i : Nat) (ps : List Tr), Tr.nss ps → Tr.frees true h n i ps = []
  | _, [], _ => rfl
  | i, t :: ts, m => by
    have m' : t.ns ∧ Tr.nss ts := m
    show (t.free true).filter _ ++ Tr.frees true h n (i + 1) ts = []
    rw [free_ns t m'.1, frees_ns h n (i + 1) ts m'.2]
    rfl
end
theorem anew_ns {h : Hd} {ps : List Tr} (n : Tr.nss ps) : anewOf h ps = [] := by
  unfold anewOf
  rw [List.filter_eq_nil_iff]
  intro x _ e
  obtain ⟨j, t, e1, _, e3⟩ := (chg_iff h ps.length x 0 ps).mp e
  rw [free_ns t (nss_iff.mp n t (List.mem_of_getElem? e1))] at e3
  cases e3
mutual
/-- what has no set stays as it is -/
theorem plain_same : ∀ (t : Tr) (hs : Str → Bool), t.ns → (∀ x, hs x = false) → t.plain hs = t
  | .mk h ps, hs, n, hz => by
    have n' : nsH h ∧ Tr.nss ps := n
    have ea := anew_ns (h := h) n'.2
    show shapeP hs (anewOf h ps) (Tr.plains (scopeP hs h ps.length (anewOf h ps)) 0 ps) h = .mk h ps
    rw [ea, plains_same ps _ 0 n'.2 (fun i x => by unfold scopeP; rw [hz]; simp)]
    cases h with
    | name x =>
      show (if hs x = true then _ else Tr.mk (.name x) ps) = _
      rw [hz]
      rfl
    | one w x => exact (if_neg n'.1).trans rfl
    | bind w xs =>
      show (if w = "rec" ∧ ([] : List Str) ≠ [] then recP xs [] ps else wrapL [] (.bind w xs) ps) = _
      rw [if_neg fun z => z.2 rfl]
      rfl
    | _ => rfl
theorem plains_same : ∀ (ps : List Tr) (sc : Nat → Str → Bool) (i : Nat), Tr.nss ps → (∀ i x, sc i x = false) → Tr.plains sc i ps = ps
  | [], _, _, _, _ => rfl
  | t :: ts, sc, i, m, hz => by
    have m' : t.ns ∧ Tr.nss ts := m
    show t.plain (sc i) :: Tr.plains sc (i + 1) ts = t :: ts
    rw [plain_same t (sc i) m'.1 (hz i), plains_same ts sc (i + 1) m'.2 hz]
end
end Cm

set_option linter.all false
/-! own exceptions that are made as values, their fields, isinstance of them -/
namespace Cm
open PySem L2 PySem.Spec PyProof.Rows
/-- a made exception with fields fs -/
def ExV (H : Hp) (a C : Addr) (fs : List (Str × V)) : Prop := ∃ d, H a = some (exo a C (some d)) ∧ H d = some (exd d fs)
theorem ExV.same {H H' : Hp} {a C : Addr} {fs : List (Str × V)} (x : ExV H a C fs) (s : Same H H') : ExV H' a C fs := by
  obtain ⟨d, e1, e2⟩ := x
  exact ⟨d, s _ _ e1, s _ _ e2⟩
/-- C(e, ..) as a value, C's own __init__ keeping sp -/
def tMkV (C : Addr) (sp : Sp) (ta : TA) : TE := fun σ H Q => ta σ H fun vs H1 => vs.length ≤ 1000 ∧ ∀ a, H1 a = Option.none → sp (.ref a :: vs) (upd H1 a (exo a C Option.none)) (fun v H2 => v = .non ∧ Q (.ref a) H2) E0
theorem pe_mkV {X : Cx} {x : Str} {C fI : Addr} {k : Nat} {fd : FuncData} {ps : List Str} {sp : Sp} {e : Expr} {es : List Expr} {ta : TA} {p pos : Pos} (T : OexC X.K C) (iC : PySem.W.findIn X.K (.ref C) "__init__" = some (some (.ref fI))) (tI : PySem.W.typeIn X.K (.ref fI) = some (.type "function"))
    (F1 : FnOk X.prog X.w X.K X.mg X.base CX0 k fI fd ps sp) (hr : Room (k + 1) X.A) (hb : Binds X.K fd ps []) (hg : Gl X x) (hm : X.mg x = some (.ref C)) (ha : PA X (e :: es) ta)
    (hdb : (x == ("__debug__" : Str)) = false := by decide) (he : starEach (e :: es) X.env = (false, eval e X.env) :: starEach es X.env := by rfl) (hpl : (backTo pos (starEach es X.env)).any (·.1) = false := by rfl) :
    PE X (.Call (.Name x p) (e :: es) [] pos) (tMkV C sp ta) := by
  refine ⟨fun pins s σ H Q I h => ?_⟩
  obtain ⟨nm, q, N, bs, bm, sn, sub, ab, col, dd, k0, k1, k2, k3, k5, hC, hbm⟩ := T.cls
  refine wpAny_Call_Name_kw (ld_glob I hg hm ?_ hdb)
  refine PySem.W.callWith_K (h₀ := X.base) I.ok.mod.kin T.kC (thn (ha.run pos pins s σ H _ I h) fun us s1 ⟨vs, H1, I1, r1, hz, q1⟩ => ⟨I1.kIn, ?_⟩) he hpl
  show wpAny _ _ (call (.ref C) us) _ _ _
  obtain ⟨hp, g, dr, tk, os⟩ := s1
  have hsz : hp.objs.size ≤ hp.objs.size + 1 := Nat.le_succ _
  have hq := q1 (hp.objs.size + 1) (I1.hok.fresh hsz)
  have hget : ((hp.push (PySem.W.kdv_tup us)).push (PySem.HandSPX.excO C hp.objs.size)).get? (hp.objs.size + 1) = some (PySem.HandSPX.excO C hp.objs.size) := by heap_get
  have I2 : Inv X pins σ (upd H1 (hp.objs.size + 1) (exo (hp.objs.size + 1) C Option.none)) ⟨(hp.push (PySem.W.kdv_tup us)).push (PySem.HandSPX.excO C hp.objs.size), g, dr, tk, os⟩ :=
    I1.laid (t' := tk) (a := hp.objs.size + 1) (o := exo (hp.objs.size + 1) C Option.none) (fun b o e => Heap.get?_push_of_some _ (Heap.get?_push_of_some _ e)) hsz (exo_ok hget)
  have r2 : Vals (V.ref (hp.objs.size + 1) :: vs) (Value.ref (hp.objs.size + 1) :: us) := .cons rfl r1
  have hl : (Value.ref (hp.objs.size + 1) :: us).length = ps.length := by
    have e := r2.length
    rw [F1.len _ _ _ _ hq] at e
    exact e.symm
  have hus : us.length ≤ sizeLine := by
    rw [← Paired.length r1, sizeLine_eq]
    omega
  have hbb := hb ⟨(hp.push (PySem.W.kdv_tup us)).push (PySem.HandSPX.excO C hp.objs.size), g, dr, tk, os⟩ (Value.ref (hp.objs.size + 1) :: us) I2.kIn (by rw [List.append_nil]; exact hl)
  rw [List.append_nil] at hbb
  refine wpAny_call (PySem.HandSPX.call_own F.excBase_ValueError (fun Y => PySem.HandSPX.refsVE_contains Y bm hbm) (I1.kIn _ _ hC) (PySem.W.looks_findIn I1.kIn iC) (fun self => PySem.W.bind_fn I1.kIn self tI) hus
    (codeAny_mono (F1.run _ X.stack _ _ ⟨Value.ref (hp.objs.size + 1) :: us, []⟩ (Value.ref (hp.objs.size + 1) :: us) _ _ E0 (hr.make C us []) (I2.env0.make C us []) hbb r2 hq) fun r s' hq' => ?_))
  cases r with
  | error er => exact pass0 pins σ _ _ er s' I2 hq'
  | ok fl =>
    cases fl with
    | ret u =>
      obtain ⟨v, H2, J, rv, ev, q2⟩ := I2.after hq'
      subst ev
      exact ⟨rv, .ref (hp.objs.size + 1), H2, J, rfl, q2⟩
    | next => exact False.elim hq'
    | brk => exact False.elim hq'
    | cont => exact False.elim hq'
/-! ### x.f -/
def tFldE (K : PySem.W.Frag) (f : Str) (te : TE) : TE := fun σ H Q => te σ H fun x H1 => ∃ (a C : Addr) (fs : List (Str × V)) (v : V), x = .ref a ∧ XfC K C ∧ PySem.W.findIn K (.ref C) f = some Option.none ∧ ExV H1 a C fs ∧ fs.lookup f = some v ∧ Q v H1
theorem pe_fldE {X : Cx} {e : Expr} {te : TE} {pos : Pos} {n : Str} (he : PE X e te) (hb : attributeBase e n X.env (eval e X.env) = eval e X.env := by rfl) : PE X (.Attribute e n pos) (tFldE X.K n te) := by
  refine ⟨fun pins s σ H Q I h => ?_⟩
  refine attr_of hb (thn (he.run pins s σ H _ I h) fun u s1 hh => ?_)
  obtain ⟨x, H1, I1, rx, a, C, fs, v, ex, T, hno, ⟨dd, eh, ea⟩, l, q⟩ := hh
  subst ex
  obtain rfl : u = Value.ref a := rx
  obtain ⟨t1, ho⟩ := exo_at I1.hok eh
  obtain ⟨mA, hns, hr⟩ := exd_at I1.hok ea
  obtain ⟨od, hod, hl⟩ := lookIn_ns hns
  obtain ⟨u, hu, ru⟩ := RelO.some_of (v := v) (o := mA n) (by rw [← l]; exact hr n)
  have J : PySem.W.InstAt s1.heap a { cls := .ref C, dict := some dd, data := .fields #[.ref t1, .none, .none, .none, .bool false, .none] } C (some od) := ⟨ho, rfl, rfl, hod⟩
  exact HandSPX.exc_get I1.kIn J T.ga T.gg T.exC (PySem.W.findObj_own T.hdC hno rfl (by rw [hl, hu])) (handed_of ru) ⟨v, H1, I1.tok _, ru, q⟩
end Cm
/-! ### isinstance(x, D), whichever class (after the library's rule for an exception without a dict) -/
namespace PySem.W
open PySem PySem.Spec PySem.Calls PyProof.Rows
theorem cls_ofExc {prog : Program} {w : World} {A : Around} {E : Value → Shared → Prop} {s : Shared} {K : Frag} {x D : Addr} {ox od : Obj} {Q : Option Value → Shared → Prop} (T : L2.ExcC K D) (X : K.In s.heap) (I : InstAt s.heap x ox D (some od))
    (h : Q (some (.ref D)) { s with toks := s.toks + 1 }) : wpAny (model prog w) A (getAttr? (.ref x) "__class__") Q E s := by
  have hf : findObj K D (some od) "__class__" = some (.bind (.builtin "getset_descriptor.__get__") (.builtin "object.__class__")) := findObj_data (by obtain ⟨cd, hc, _⟩ := any_some T.hd; rw [hc]; rfl) T.ha T.hn T.ht
  obtain ⟨hp, g, d, t, os⟩ := s
  have L0 := I.type (M := model prog w)
  have L1 := looks_findIn (M := model prog w) X T.hg
  have L2 := looks_findIn (M := model prog w) X T.hk
  have L3 := looks_find (M := model prog w) X I hf
  have sub : Looks (model prog w) hp (isInstance (.ref x) (.type "BaseException")) true := L0.andThen (looks_subIn X T.hs)
  have ne : (Value.builtin "BaseException.__getattribute__" == Value.builtin "object.__getattribute__") = false := by decide +kernel
  unfold getAttr? getAttrBy? getAttrBy
  refine wpAny_bind (wpAny_mkText (wpAny_bind (wpAny_attempt (wpAny_holding (wpAny_bind (L0.at (wpAny_bind (L1.at ?_))))))))
  show wpAny _ _ (if (onTheHeap (Value.ref D) && Value.builtin "BaseException.__getattribute__" == Value.builtin "object.__getattribute__") = true then _ else _) _ _ _
  rw [show (onTheHeap (Value.ref D) && Value.builtin "BaseException.__getattribute__" == Value.builtin "object.__getattribute__") = false by rw [ne]; rfl, if_neg Bool.false_ne_true]
  unfold getAttrByItsOwn hookBefore
  refine wpAny_bind ?_
  rw [if_pos (show onTheHeap (Value.ref D) = true from rfl)]
  refine L2.at (wpAny_bind (wpAny_attempt (wpAny_holding ?_)))
  unfold callGetattribute
  rw [show (false && onTheHeap (Value.builtin "BaseException.__getattribute__")) = false from rfl, if_neg Bool.false_ne_true]
  unfold boundAndCalled
  rw [PySem.F.excAttr_ValueError.ga.bind (.ref x)]
  refine wpAny_bind (wpAny_pure ?_)
  show wpAny _ _ (call (.builtin "BaseException.__getattribute__") [.ref x, .str "__class__" t]) _ _ _
  refine wpAny_call (codeAny_call_builtin PySem.F.excAttr_ValueError.ga.plain PySem.F.entry_bexc_ga ?_)
  refine @check_slot (model prog w) _ _ ⟨hp, g, d, t + 1, os⟩ "BaseException.__getattribute__" "BaseException" "__getattribute__" (.ref x) [.str "__class__" t] [] _ (by decide +kernel) (by decide +kernel) sub (PySem.F.args_bexc_ga (.ref x) (.str "__class__" t)) ?_
  unfold Builtin.«object.__getattribute__»
  refine wpAny_bind (wpAny_of_eq (a := ((Value.ref x : Value), [Value.str "__class__" t])) (by first | rfl | (simp only [slotArgs]; rfl)) ?_)
  refine wpAny_bind (wpAny_pure (wpAny_bind (L0.at (wpAny_bind (L3.at ?_)))))
  show wpAny _ _ (holding [Value.builtin "object.__class__"] (call (.builtin "getset_descriptor.__get__") [.builtin "object.__class__", .ref x, .ref D]) >>= ret) _ _ _
  refine wpAny_bind (wpAny_holding (wpAny_call (class_get (s := ⟨hp, g, d, t + 1, os⟩) (ox := ox) (od := some od) X I T.hm ?_)))
  refine wpAny_pure ?_
  show wpAny _ _ (handedOut (.ref D)) _ _ _
  rw [handedOut_of (v := .ref D) rfl]
  first
    | exact wpAny_pure (wpAny_pure h)
    | exact wpAny_pure h
    | exact wpAny_pure (wpAny_bind (wpAny_pure (wpAny_pure h)))
theorem kit_ofExc {K : Frag} {x D : Addr} {ox od : Obj} (T : L2.ExcC K D) : KitX K (.ref x) (.ref D) (fun h => InstAt h x ox D (some od)) where
  ty := fun _ _ _ I => I.type
  it := fun _ _ X _ => by
    obtain ⟨cdD, hcD, _⟩ := any_some T.hd
    unfold clsIn at hcD
    split at hcD
    · rename_i c' d' cd' sl' ho
      intro A' Q' E' s' k q
      unfold isType loadHead
      exact wpAny_bind (wpAny_loadPart (k _ _ (X _ _ ho)) (wpAny_pure q))
    · cases hcD
  ne := fun h tp dd its n sl X htp => by
    obtain ⟨cdD, hcD, _⟩ := any_some T.hd
    refine Bool.eq_false_iff.mpr fun q => ?_
    have e : D = tp := Value.ref.inj (beq_iff_eq.mp q)
    subst e
    unfold clsIn at hcD
    split at hcD
    · rename_i c' d' cd' sl' ho
      have z := (X _ _ ho).symm.trans htp
      cases z
    · cases hcD
  ca := fun X I k => cls_ofExc T X I k
end PySem.W
namespace Cm
open PySem L2 PySem.Spec PyProof.Rows
def rIsV (K : PySem.W.Frag) : List V → Hp → VK → Prop := fun xs H Q => ∃ (a C : Addr) (fs : List (Str × V)) (c : V) (cv : Value) (b : Bool), xs = [.ref a, c] ∧ ClsV c cv ∧ ExcC K C ∧ ExV H a C fs ∧ PySem.W.kitOne K (.ref C) cv = some b ∧ Q (.bl b) H
theorem call_isV {X : Cx} : CallR X (.builtin "isinstance") (rIsV X.K) := by
  intro pins s σ H xs us Q I r h
  obtain ⟨a, C, fs, c, cv, b, rfl, kc, T, ⟨dd, eh, ea⟩, e, q⟩ := h
  obtain ⟨u1, u2, rfl, r1, r2⟩ := vals2 r
  obtain rfl : u1 = Value.ref a := r1
  have e2 := kc.eq r2
  subst e2
  obtain ⟨t1, ho⟩ := exo_at I.hok eh
  obtain ⟨mA, hns, hr⟩ := exd_at I.hok ea
  obtain ⟨od, hod, hl⟩ := lookIn_ns hns
  have J : PySem.W.InstAt s.heap a { cls := .ref C, dict := some dd, data := .fields #[.ref t1, .none, .none, .none, .bool false, .none] } C (some od) := ⟨ho, rfl, rfl, hod⟩
  exact PySem.W.kia_one (PySem.W.kit_ofExc T) I.kIn J e (fun z => nomatch z) fun tk => ⟨.bl b, H, I.tok tk, rfl, q⟩
end Cm

set_option linter.all false
/-! classes of errors with fields: what is needed of each -/
namespace Cm
open PySem L2 PySem.Spec PyProof.Rows
/-- what an __init__ that stores its parameters leaves -/
def spI (K : PySem.W.Frag) (fl : List Str) : Sp := fun vs H Q _ => ∃ (a C : Addr) (xs : List V), vs = .ref a :: xs ∧ xs.length = fl.length ∧ OexC K C ∧ (∀ f ∈ fl, PySem.W.findIn K (.ref C) f = some Option.none) ∧ H a = some (exo a C Option.none) ∧
  ∀ (d : Addr) (H' : Hp), H d = Option.none → d ≠ a → (∀ b o, b ≠ a → H b = some o → H' b = some o) → H' a = some (exo a C (some d)) → H' d = some (exd d (fl.zip xs).reverse) → Q .non H'
structure Mk (P : Program) (w : World) (K : PySem.W.Frag) (mg : Str → Option Value) (base : Heap) (C : Addr) (x : Str) (fl : List Str) : Prop where
  oex : OexC K C
  g : mg x = some (.ref C)
  xf : XfC K C
  ec : ExcC K C
  no : ∀ f ∈ fl, PySem.W.findIn K (.ref C) f = some Option.none
  init : ∃ (fI : Addr) (fd : FuncData) (ps : List Str), PySem.W.findIn K (.ref C) "__init__" = some (some (.ref fI)) ∧ PySem.W.typeIn K (.ref fI) = some (.type "function") ∧ FnOk P w K mg base CX0 1 fI fd ps (spI K fl) ∧ Binds K fd ps []
def tMk (C : Addr) (fl : List Str) (ta : TA) : TE := fun σ H Q => ta σ H fun vs H1 => vs.length = fl.length ∧ ∀ a H', Same H1 H' → ExV H' a C (fl.zip vs).reverse → Q (.ref a) H'
theorem pe_mk {X : Cx} {x : Str} {C : Addr} {fl : List Str} {j : Nat} {e : Expr} {es : List Expr} {ta : TA} {p pos : Pos} (M : Mk X.prog X.w X.K X.mg X.base C x fl) (hr : Room j X.A) (hk : 2 ≤ j) (hl : fl.length ≤ 1000) (hg : Gl X x) (ha : PA X (e :: es) ta)
    (hdb : (x == ("__debug__" : Str)) = false := by decide) (he : starEach (e :: es) X.env = (false, eval e X.env) :: starEach es X.env := by rfl) (hpl : (backTo pos (starEach es X.env)).any (·.1) = false := by rfl) :
    PE X (.Call (.Name x p) (e :: es) [] pos) (tMk C fl ta) := by
  obtain ⟨fI, fd, ps, h1, h2, F, b⟩ := M.init
  have ha' : PA X (e :: es) (fun σ H Q => ∃ Q0, ta σ H Q0 ∧ ∀ vs H1, Q0 vs H1 → Q vs H1) := ⟨fun pos pins s σ H Q I ⟨Q0, h0, imp⟩ =>
    wpAny_mono (ha.run pos pins s σ H Q0 I h0) (fun us s1 ⟨vs, H1, I1, r, q⟩ => ⟨vs, H1, I1, r, imp _ _ q⟩) (fun _ _ z => z)⟩
  have R := pe_mkV (p := p) (pos := pos) M.oex h1 h2 F (hr.mono hk) b hg M.g ha' hdb he hpl
  refine ⟨fun pins s σ H Q I h => R.run pins s σ H Q I ⟨_, h, fun vs H1 ⟨hv, hq⟩ => ⟨by omega, fun a ha0 => ?_⟩⟩⟩
  refine ⟨a, C, vs, rfl, hv, M.oex, M.no, upd_same, fun d H' _ _ keep ea ed => ⟨rfl, hq a H' (fun b o q => ?_) ⟨d, ea, ed⟩⟩⟩
  have hb : b ≠ a := fun z => by
    rw [z, ha0] at q
    cases q
  exact keep b o hb (by rw [upd_ne hb]; exact q)
/-- self.f = x, then perhaps self.g = y -/
theorem init1 {K : PySem.W.Frag} {H : Hp} {a C : Addr} {f : Str} {x : V} {Q : Hp → Prop} (T : OexC K C) (no : PySem.W.findIn K (.ref C) f = some Option.none) (ha : H a = some (exo a C Option.none))
    (k : ∀ (d : Addr) (H' : Hp), H d = Option.none → d ≠ a → (∀ b o, b ≠ a → H b = some o → H' b = some o) → H' a = some (exo a C (some d)) → H' d = some (exd d [(f, x)]) → Q H') :
    ∃ a' C', V.ref a = .ref a' ∧ OexC K C' ∧ PySem.W.findIn K (.ref C') f = some Option.none ∧ ((H a' = some (exo a' C' Option.none) ∧ ∀ dx, H dx = Option.none → dx ≠ a' → Q (upd (upd H dx (exd dx [(f, x)])) a' (exo a' C' (some dx)))) ∨
      ∃ (dx : Addr) (fs : List (Str × V)), H a' = some (exo a' C' (some dx)) ∧ H dx = some (exd dx fs) ∧ fs.length ≤ 900 ∧ Q (upd H dx (exd dx ((f, x) :: fs)))) :=
  ⟨a, C, rfl, T, no, .inl ⟨ha, fun dx hd ne => k dx _ hd ne (fun b o hb e => by rw [upd_ne hb, upd_ne (ne_of_none e hd)]; exact e) upd_same (by rw [upd_ne ne]; exact upd_same)⟩⟩
theorem init2 {K : PySem.W.Frag} {H : Hp} {a C d : Addr} {g : Str} {y : V} {fs : List (Str × V)} {Q : Hp → Prop} (T : OexC K C) (no : PySem.W.findIn K (.ref C) g = some Option.none) (ha : H a = some (exo a C (some d))) (hd : H d = some (exd d fs)) (hl : fs.length ≤ 900) (ne : d ≠ a)
    (k : (∀ b o, b ≠ d → H b = some o → (upd H d (exd d ((g, y) :: fs))) b = some o) → Q (upd H d (exd d ((g, y) :: fs)))) :
    ∃ a' C', V.ref a = .ref a' ∧ OexC K C' ∧ PySem.W.findIn K (.ref C') g = some Option.none ∧ ((H a' = some (exo a' C' Option.none) ∧ ∀ dx, H dx = Option.none → dx ≠ a' → Q (upd (upd H dx (exd dx [(g, y)])) a' (exo a' C' (some dx)))) ∨
      ∃ (dx : Addr) (fs : List (Str × V)), H a' = some (exo a' C' (some dx)) ∧ H dx = some (exd dx fs) ∧ fs.length ≤ 900 ∧ Q (upd H dx (exd dx ((g, y) :: fs)))) :=
  ⟨a, C, rfl, T, no, .inr ⟨d, fs, ha, hd, hl, k fun b o hb e => by rw [upd_ne hb]; exact e⟩⟩
end Cm

set_option linter.all false
/-! an error without arguments; isinstance of errors of any kind -/
namespace Cm
open PySem L2 PySem.Spec PyProof.Rows
theorem pe_exc0 {X : Cx} {C : Addr} {bmB : List Value} {B newId initId : String} {x : Str} {p pos : Pos} (F : ExcBaseFacts B newId initId bmB) (q : PySem.W.excIn X.K C bmB newId = true) (gC : X.mg x = some (.ref C)) (kC : PySem.W.keepIn X.K (.ref C) = true) (hg : Gl X x)
    (hdb : (x == ("__debug__" : Str)) = false := by decide) :
    PE X (.Call (.Name x p) [] [] pos) (fun _ H Q => ∀ a, H a = Option.none → Q (.ref a) (upd H a (ExO (.ref C) a))) := by
  refine ⟨fun pins s σ H Q I h => ?_⟩
  refine wpAny_Call_Name_kw (ld_glob I hg gC ?_ hdb)
  refine PySem.W.callWith_K0 I.kIn kC ?_
  show wpAny _ _ (call (.ref C) []) _ _ _
  obtain ⟨bm, N, nm, qn, bs, hdct, sn, sub, ab, col, dd, k0, k1, k2, k3, k5, mN, hC, hN, hni, T⟩ := exc_obj I.kIn q
  refine wpAny_call_exc_subT F T hC hN hni (fun h' a hm => ?_) (by show 0 ≤ sizeLine; rw [sizeLine_eq]; omega)
  have hn : H a = Option.none := I.hok.gone hm.new
  obtain ⟨t, ht, _, _⟩ := hm.there
  exact ⟨.ref a, upd H a (ExO (.ref C) a), I.laidN hm.keeps hm.new hn (exO_ok ht ⟨rfl, rfl⟩ rfl rfl rfl (show 4 < 6 by decide)), rfl, h a hn⟩
/-- an error: with a dict, without, or kept behind a try -/
def ExA (H : Hp) (a C : Addr) : Prop := (∃ fs, ExV H a C fs) ∨ H a = some (ExO (.ref C) a) ∨ ∃ dd fs, H a = some (ExH a (.ref C) (some dd)) ∧ H dd = some (.xd fs)
theorem ExA.same {H H' : Hp} {a C : Addr} (x : ExA H a C) (s : Same H H') : ExA H' a C := by
  rcases x with ⟨fs, x⟩ | x | ⟨dd, fs, x, y⟩
  · exact .inl ⟨fs, x.same s⟩
  · exact .inr (.inl (s _ _ x))
  · exact .inr (.inr ⟨dd, fs, s _ _ x, s _ _ y⟩)
def rIsA (K : PySem.W.Frag) : List V → Hp → VK → Prop := fun xs H Q => ∃ (a C : Addr) (c : V) (cv : Value) (b : Bool), xs = [.ref a, c] ∧ ClsV c cv ∧ ExcC K C ∧ ExA H a C ∧ PySem.W.kitOne K (.ref C) cv = some b ∧ Q (.bl b) H
theorem call_isA {X : Cx} : CallR X (.builtin "isinstance") (rIsA X.K) := by
  intro pins s σ H xs us Q I r h
  obtain ⟨a, C, c, cv, b, rfl, kc, T, x, e, q⟩ := h
  rcases x with ⟨fs, x⟩ | x | ⟨dd, fs, eh, ea⟩
  · exact call_isV pins s σ H _ us Q I r ⟨a, C, fs, c, cv, b, rfl, kc, T, x, e, q⟩
  · obtain ⟨u1, u2, rfl, r1, r2⟩ := vals2 r
    obtain rfl : u1 = Value.ref a := r1
    have e2 := kc.eq r2
    subst e2
    have hx : ObjOk X.prog X.w H s.heap a (ExO (.ref C) a) := I.hok a _ x
    obtain ⟨oe, vs, ho, hz, hd, _⟩ := hx.1
    have J : PySem.W.InstAt s.heap a oe C Option.none := ⟨ho, hz.1, by unfold PySem.W.notCls; rw [hd] <;> rfl, by rw [hz.2]; trivial⟩
    exact PySem.W.kia_one (PySem.W.handS_kitx_exc T.hg T.hk T.hs T.hd T.ha T.hn T.ht T.hm) I.kIn J e (fun z => nomatch z) fun tk => ⟨.bl b, H, I.tok tk, rfl, q⟩
  · obtain ⟨u1, u2, rfl, r1, r2⟩ := vals2 r
    obtain rfl : u1 = Value.ref a := r1
    have e2 := kc.eq r2
    subst e2
    obtain ⟨oe, vs, ho, hz, hd⟩ := exH_at I.hok eh
    have hx : ObjOk X.prog X.w H s.heap dd (.xd fs) := I.hok dd _ ea
    obtain ⟨mA, hns, hr⟩ := hx
    obtain ⟨od, hod, hl⟩ := lookIn_ns hns
    have J : PySem.W.InstAt s.heap a oe C (some od) := ⟨ho, hz.1, by unfold PySem.W.notCls; rw [hd] <;> rfl, by rw [hz.2]; exact hod⟩
    exact PySem.W.kia_one (PySem.W.kit_ofExc T) I.kIn J e (fun z => nomatch z) fun tk => ⟨.bl b, H, I.tok tk, rfl, q⟩
end Cm

set_option linter.all false
/-! raise C(x, ..); try with two clauses of which the second catches and keeps -/
namespace Cm
open PySem L2 PySem.Spec PyProof.Rows
def tRaiseMk (C : Addr) (fl : List Str) (W : WX) (ta : TA) : TS := fun _ σ H => ta σ H fun vs H1 => vs.length = fl.length ∧ ∀ (d : Addr) (H' : Hp), Same H1 H' → H' d = some (.xd (fl.zip vs).reverse) → W (.ref C) (some d) σ H'
theorem ps_raiseMk {X : Cx} {x : Str} {C : Addr} {fl : List Str} {j : Nat} {W : WX} {e : Expr} {es : List Expr} {ta : TA} {p pos pos2 : Pos} (hc : X.calm = true) (M : Mk X.prog X.w X.K X.mg X.base C x fl) (hr : Room j X.A) (hk : 2 ≤ j) (hl : fl.length ≤ 1000) (tk : Takes X W) (hg : Gl X x) (ha : PA X (e :: es) ta)
    (hdb : (x == ("__debug__" : Str)) = false := by decide) (he : starEach (e :: es) X.env = (false, eval e X.env) :: starEach es X.env := by rfl) (hpl : (backTo pos (starEach es X.env)).any (·.1) = false := by rfl) :
    PS X (.Raise (some (.Call (.Name x p) (e :: es) [] pos)) Option.none pos2) (tRaiseMk C fl W ta) := by
  obtain ⟨fI, fd, ps, h1, h2, F, b⟩ := M.init
  have ha' : PA X (e :: es) (fun σ H Q => ∃ Q0, ta σ H Q0 ∧ ∀ vs H1, Q0 vs H1 → Q vs H1) := ⟨fun pos pins s σ H Q I ⟨Q0, h0, imp⟩ =>
    wpAny_mono (ha.run pos pins s σ H Q0 I h0) (fun us s1 ⟨vs, H1, I1, r, q⟩ => ⟨vs, H1, I1, r, imp _ _ q⟩) (fun _ _ z => z)⟩
  have R := ps_raise (pos := pos2) hc tk (pmk_oex (p := p) (pos := pos) M.oex h1 h2 F (hr.mono hk) b .nil (fun _ _ _ _ _ _ _ z => z.elim) hg M.g ha' hdb he hpl)
  refine ⟨fun pins s σ H D I h => R.run pins s σ H D I ⟨_, h, fun vs H1 ⟨hv, hq⟩ => ⟨by omega, fun a ha0 => ?_⟩⟩⟩
  refine ⟨a, C, vs, by rw [List.append_nil], hv, M.oex, M.no, upd_same, fun d H' hd ne keep ea ed => ⟨rfl, d, _, ea, ed, ?_, ?_⟩⟩
  · rw [upd_ne ne] at hd
    exact hd
  · have hd1 : H1 d = Option.none := by rw [upd_ne ne] at hd; exact hd
    refine hq d _ (fun b o q => ?_) upd_same
    have hb : b ≠ a := fun z => by
      rw [z, ha0] at q
      cases q
    rw [upd_ne (ne_of_none q hd1), del_ne hb]
    exact keep b o hb (by rw [upd_ne hb]; exact q)
/-- .. of two clauses, the second catches -/
def wHeld2 (K : PySem.W.Frag) (c1 c : Value) (i : Nat) (ts : Addr → TS) (D : Ends) : WX := fun cls d σ H =>
  PySem.W.exmOne K cls c1 = some false ∧ PySem.W.exmOne K cls c = some true ∧ ∀ a, H a = Option.none → ts a { nx := fun σ' H' => D.nx (σ'.set i Option.none) H', rt := D.rt, bk := fun σ' H' => D.bk (σ'.set i Option.none) H', ct := fun σ' H' => D.ct (σ'.set i Option.none) H' } (σ.set i (some (.ref a))) (upd H a (ExH a cls d))
section
variable {X : Cx} {x n x1 n1 : Str} {c c1 : Value} {i : Nat} {body suite suite1 : List Stmt} {b₀ b1 : Stmt} {np pos pos' np1 pos1 : Pos} {tb : WX → TS} {ts : Addr → TS}
theorem ps_try_held2 (hs : X.stack = X.env :: X.outer) (hf : X.env.frame = some X.env.locals) (hN : X.N.Nodup) (hi : X.N[i]? = some n) (hln : X.env.kindOf n = some .local) (hc1 : Names X x1 c1) (hc : Names X x c) (hex : X.ex = [])
    (hb : ∀ (W : WX) (pn : List (Addr × Obj)) (xe : Value → Shared → Prop), Takes (X.tr pn xe) W → PassesOwn (model X.prog X.w) X.A X.env xe → PSs (X.tr pn xe) body (tb W))
    (hsu : ∀ (a : Addr) (pn : List (Addr × Obj)), PSs (X.suite a pn) (b₀ :: suite) (ts a)) :
    PS X (.Try body [.ExceptHandler (some (.Name x1 np1)) (some n1) (b1 :: suite1) pos1, .ExceptHandler (some (.Name x np)) (some n) (b₀ :: suite) pos'] [] [] pos) (fun D σ H => tb (wHeld2 X.K c1 c i ts D) D σ H) := by
  refine ⟨fun pins s σ H D I h => ?_⟩
  have ok := I.ok
  have hfr : X.A.frames = some (X.env :: X.outer) := by rw [ok.frames, hs]
  refine wpAny_Try_except ?_
  refine wpAny_mono ((hb (wHeld2 X.K c1 c i ts D) (X.pn ++ pins) (fun e s₁ => wpAny (model X.prog X.w) X.A (noteFrame e X.env) (fun _ s₂ => wpAny (model X.prog X.w) X.A (setFlight e Option.none) (fun _ s₃ =>
    wpAny (model X.prog X.w) X.A (handleBy e X.env [.ExceptHandler (some (.Name x1 np1)) (some n1) (b1 :: suite1) pos1, .ExceptHandler (some (.Name x np)) (some n) (b₀ :: suite) pos']) (SP X pins D) X.xe s₃) X.xe s₂) X.xe s₁) (fun u s' xx => ?_) PassesOwn.looking).run [] s σ H D (I.toTry _) h) (fun f s1 hsp => ?_) (fun e s1 he => he)
  · obtain ⟨a, B, sI, pins', σ', H', cls, d, rfl, J', nb, up, sky, na, os, ag, hb0, hb1, hyes⟩ := xx
    have J : Inv X pins σ' H' sI := J'.ofTry ok
    have sky' : Sky B (X.env :: X.outer) a (Zc cls d) X.env.locals s'.heap := by rw [← hs]; exact sky
    show wpAny _ _ (noteFrame (.ref a) X.env) _ _ _
    refine Sky.land Zc.steady hfr hf sky' fun h3 fl3 up3 => ?_
    have J3 : Inv X pins σ' H' { s' with heap := h3 } := J.landed nb fl3.1 (up.trans up3) os ag
    obtain ⟨oe3, vs3, he3, hz3, hd3⟩ := fl3.there
    have nfr : a ∉ frs X.stack := fun hm => by
      rw [hs] at hm
      obtain ⟨_, o', e', hnf⟩ := fl3.2.2.1.mem hm
      rw [he3] at e'
      cases e'
      exact hnf _ hd3
    have nsI : sI.heap.get? a = Option.none := by
      cases q : sI.heap.get? a with
      | none => rfl
      | some o =>
        have z := nb a o q nfr
        rw [fl3.2.1] at z
        cases z
    have n0 : X.s_0.heap.get? a = Option.none := by
      cases q : X.s_0.heap.get? a with
      | none => rfl
      | some o =>
        obtain ⟨o', z⟩ := J.base.there a o q (by rw [hex]; exact List.not_mem_nil)
        rw [nsI] at z
        cases z
    have nL : a ≠ X.env.locals := fun z => nfr (by
      rw [hs]
      exact List.mem_filterMap.mpr ⟨X.env, List.mem_cons_self, by rw [hf, z]⟩)
    have nC : ∀ y c, X.env.cells.lookup y = some c → c ≠ a := fun y c e z => by
      obtain ⟨v, o, ho, _⟩ := J.cell y c e
      rw [z, nsI] at ho
      cases ho
    have nP : ∀ p ∈ X.pn ++ pins, p.1 ≠ a := fun p hp z => by
      have q := (J.pin p hp).1
      rw [z, nsI] at q
      cases q
    have S3 := suite0 J3 a
    refine wpAny_handleBy_cons (codeAny_handlers_test ?_) (by intro q; cases q)
    have LT : PySem.W.Looks (model X.prog X.w) h3 (typeOf (.ref a)) cls := fun A Q E s k q => wpAny_typeOf_ref (k _ _ he3) (by rw [hz3.1]; exact q)
    have LM0 := PySem.W.exm_one (M := model X.prog X.w) (J3.kIn) LT hb0
    have test1 : ∀ {Q : Value → Shared → Prop} {E : Value → Shared → Prop}, Q c1 { s' with heap := h3 } → wpAny (model X.prog X.w) (X.A.mark (some (.ref a))) (eval (.Name x1 np1) X.env) Q E { s' with heap := h3 } := fun {Q E} q => by
      obtain ⟨hg, hdbg, hm | ⟨hm, hv, hnn⟩⟩ := hc1
      · exact ld_glob (X := X.suite a (X.pn ++ pins)) S3 hg hm q hdbg
      · exact ld_blt (X := X.suite a (X.pn ++ pins)) S3 hg hm hv q hnn hdbg
    refine test1 (LM0.here ?_)
    show wpAny _ X.A (handleBy (.ref a) X.env [.ExceptHandler (some (.Name x np)) (some n) (b₀ :: suite) pos']) _ _ _
    refine wpAny_handleBy_cons (codeAny_handlers_test ?_) (by intro q; cases q)
    have LM := PySem.W.exm_one (M := model X.prog X.w) (J3.kIn) LT hb1
    have test : ∀ {Q : Value → Shared → Prop} {E : Value → Shared → Prop}, Q c { s' with heap := h3 } → wpAny (model X.prog X.w) (X.A.mark (some (.ref a))) (eval (.Name x np) X.env) Q E { s' with heap := h3 } := fun {Q E} q => by
      obtain ⟨hg, hdbg, hm | ⟨hm, hv, hnn⟩⟩ := hc
      · exact ld_glob (X := X.suite a (X.pn ++ pins)) S3 hg hm q hdbg
      · exact ld_blt (X := X.suite a (X.pn ++ pins)) S3 hg hm hv q hnn hdbg
    refine test (LM.here ?_)
    refine codeAny_handlers_suite_as ?_
    refine HandSPX.lands_againZ fl3 fun h4 fl4 up4 => ?_
    have J4 : Inv X pins σ' H' { s' with heap := h4 } := J.landed nb fl4.1 ((up.trans up3).trans up4) os ag
    obtain ⟨oe4, vs4, he4, hz4, hd4⟩ := fl4.there
    have T4 := track (o := ExH a cls d) J4 na n0 nL nC nP (exH_ok he4 hz4 hd4)
    have S4 := suite0 T4 a
    refine store_ok (X := X.suite a (X.pn ++ pins)) (v := .ref a) S4 hN hi (.inl hln) rfl (fun s5 S5 => ?_) (.inr hln)
    refine wpAny_mono ((hsu a (X.pn ++ pins)).run [] s5 _ _ _ S5 (hyes a na)) (fun f s6 hsp => ?_) (fun _ _ z => False.elim z)
    have end_ : ∀ {σ6 : L2.St} {H6 : Hp} {Q : Shared → Prop}, Inv (X.suite a (X.pn ++ pins)) [] σ6 H6 s6 → (∀ s7, Inv X pins (σ6.set i Option.none) H6 s7 → Q s7) →
        wpAny (model X.prog X.w) X.A (do bindName X.env n .none; unbindBehindTheSuite X.env n pos') (fun _ s7 => Q s7) X.xe s6 := fun {σ6 H6 Q} S6 hq => gone_ok (unsuite0 S6 ok) hN hi hln hq
    cases f with
    | next =>
      obtain ⟨σ6, H6, S6, q6⟩ := hsp
      exact end_ S6 fun s7 J7 => ⟨_, _, J7, q6⟩
    | brk =>
      obtain ⟨σ6, H6, S6, q6⟩ := hsp
      exact end_ S6 fun s7 J7 => ⟨_, _, J7, q6⟩
    | cont =>
      obtain ⟨σ6, H6, S6, q6⟩ := hsp
      exact end_ S6 fun s7 J7 => ⟨_, _, J7, q6⟩
    | ret u =>
      obtain ⟨v6, σ6, H6, S6, r6, q6⟩ := hsp
      exact end_ S6 fun s7 J7 => ⟨_, _, _, J7, r6, q6⟩
  · cases f with
    | next =>
      obtain ⟨σ', H', J', q⟩ := hsp
      exact wpAny_execs_nil ⟨σ', H', J'.ofTry ok, q⟩
    | brk =>
      obtain ⟨σ', H', J', q⟩ := hsp
      exact ⟨σ', H', J'.ofTry ok, q⟩
    | cont =>
      obtain ⟨σ', H', J', q⟩ := hsp
      exact ⟨σ', H', J'.ofTry ok, q⟩
    | ret u =>
      obtain ⟨v, σ', H', J', r, q⟩ := hsp
      exact ⟨v, σ', H', J'.ofTry ok, r, q⟩
end
end Cm

set_option linter.all false
/-! defs that raise, called by name; the first wrong name of a tree -/
namespace Cm
open PySem L2 PySem.Spec PyProof.Rows
structure ClX (P : Program) (w : World) (K : PySem.W.Frag) (mg : Str → Option Value) (base : Heap) (k : Nat) (x : Str) (sp : Sp) : Prop where
  ex : ∃ (f : Addr) (fd : FuncData) (ps : List Str), FnOk P w K mg base (L2.CX P w) k f fd ps sp ∧ mg x = some (.ref f) ∧ PySem.W.keepIn K (.ref f) = true ∧ Binds K fd ps []
section
variable {P : Program} {w : World} {K : PySem.W.Frag} {mg : Str → Option Value} {base : Heap}
theorem clX_of {x : Str} {st : Stmt} {N ps : List Str} {k : Nat} {sp : Sp} (T : At K mg x st ps) (S : FnScope N ps (defScope st))
    (len : ∀ vs H Q E, sp vs H Q E → vs.length = ps.length)
    (hb : ∀ (f : Addr) (cdv : Value) (A : Around) (outer : List Env) (s : Shared) (H : Hp) (vs : List V) (Q : VK) (E : XK),
      Room k (A.deeper (envOfC x (defScope st) s.heap.objs.size f cdv)) → sp vs H Q E →
      ∃ t, PSs (cxOf (L2.CX P w) P w K mg base N x (defScope st) f cdv A outer s H E) (defBody st) t ∧ t { nx := fun _ H' => Q .non H', rt := Q } (start N vs) H) :
    ClX P w K mg base (k + 1) x sp := by
  obtain ⟨f, fd, F, hm, b⟩ := T.ex
  exact ⟨f, fd, ps, F.okX S len (hb f), hm, F.kp, b⟩
end
section
variable {X : Cx} {j k : Nat} {x : Str} {sp : Sp} {e : Expr} {es : List Expr} {t : TA} {p pos : Pos}
/-- a call that lets nothing out -/
theorem pe_cL (c : ClX X.prog X.w X.K X.mg X.base k x sp) (hr : Room j X.A) (hk : k ≤ j) (hg : Gl X x) (ha : PA X (e :: es) t)
    (hdb : (x == ("__debug__" : Str)) = false := by decide) (he : starEach (e :: es) X.env = (false, eval e X.env) :: starEach es X.env := by rfl)
    (hpl : (backTo pos (starEach es X.env)).any (·.1) = false := by rfl) : PE X (.Call (.Name x p) (e :: es) [] pos) (tCall sp [] E0 t) := by
  obtain ⟨f, fd, ps, F, hm, kp, b⟩ := c.ex
  exact pe_call F (hr.mono hk) hg hm kp b .nil passL ha hdb he hpl
/-- a call in a try -/
theorem pe_cS {W : WX} (c : ClX X.prog X.w X.K X.mg X.base k x sp) (hr : Room j X.A) (hk : k ≤ j) (hg : Gl X x) (tk : Takes X W) (ha : PA X (e :: es) t)
    (hdb : (x == ("__debug__" : Str)) = false := by decide) (he : starEach (e :: es) X.env = (false, eval e X.env) :: starEach es X.env := by rfl)
    (hpl : (backTo pos (starEach es X.env)).any (·.1) = false := by rfl) : PE X (.Call (.Name x p) (e :: es) [] pos) (tCallS sp (WE W) t) := by
  obtain ⟨f, fd, ps, F, hm, kp, b⟩ := c.ex
  exact pe_callS F (hr.mono hk) hg hm kp b (fun σ => passAt tk σ) ha hdb he hpl
end

/-- the first text that stands a second time -/
def twice (pre : List Str) : List Str → Option Str
  | [] => none
  | x :: r => if x ∈ pre then some x else twice (pre ++ [x]) r
theorem twice_sok : ∀ (xs pre : List Str) {x : Str}, twice pre xs = some x → x ∈ xs
  | [], _, _, h => by cases h
  | y :: r, pre, x, h => by
    have h' : (if y ∈ pre then some y else twice (pre ++ [y]) r) = some x := h
    split at h'
    · cases h'
      exact List.mem_cons_self
    · exact List.mem_cons_of_mem _ (twice_sok r _ h')
mutual
/-- the first wrong name, in reading order -/
def Tr.wrong (known : List Str) : Tr → Option (Str × Str)
  | .mk h ps => match (own false h).filter (fun x => !decide (x ∈ known)) with
    | x :: _ => some ("unknown", x)
    | [] => match twice [] (held h) with
      | some x => some ("twice", x)
      | none => Tr.wrongs known h ps.length 0 ps
def Tr.wrongs (known : List Str) (h : Hd) (n : Nat) : Nat → List Tr → Option (Str × Str)
  | _, [] => none
  | i, t :: ts => match t.wrong (known ++ under h n i) with
    | some e => some e
    | none => Tr.wrongs known h n (i + 1) ts
end
mutual
theorem wrong_sok : ∀ (t : Tr) (known : List Str) (e : Str × Str), t.ok → t.wrong known = some e → sok e.1 ∧ sok e.2
  | .mk h ps, known, e, o, w => by
    have o' : hok h ps.length ∧ ps.length ≤ 11 ∧ Tr.oks ps := o
    have w' : (match (own false h).filter (fun x => !decide (x ∈ known)) with
      | x :: _ => some ("unknown", x)
      | [] => match twice [] (held h) with
        | some x => some ("twice", x)
        | none => Tr.wrongs known h ps.length 0 ps) = some e := w
    split at w'
    · rename_i x r q
      cases w'
      refine ⟨show sok "unknown" by decide +kernel, ?_⟩
      have m : x ∈ (own false h).filter (fun x => !decide (x ∈ known)) := by rw [q]; exact List.mem_cons_self
      have m2 : x ∈ (Tr.mk h ps).free false := List.mem_append_left _ (List.mem_filter.mp m).1
      exact free_sok false (.mk h ps) o x m2
    · split at w'
      · rename_i x q
        cases w'
        exact ⟨show sok "twice" by decide +kernel, held_sok o'.1 x (twice_sok _ _ q)⟩
      · exact wrongs_sok 0 ps known h ps.length e o'.2.2 w'
theorem wrongs_sok : ∀ (i : Nat) (ts : List Tr) (known : List Str) (h : Hd) (n : Nat) (e : Str × Str), Tr.oks ts → Tr.wrongs known h n i ts = some e → sok e.1 ∧ sok e.2
  | _, [], _, _, _, _, _, w => by cases w
  | i, t :: ts, known, h, n, e, o, w => by
    have w' : (match t.wrong (known ++ under h n i) with
      | some e => some e
      | none => Tr.wrongs known h n (i + 1) ts) = some e := w
    split at w'
    · rename_i e' q
      cases w'
      exact wrong_sok t _ _ o.1 q
    · exact wrongs_sok (i + 1) ts known h n e o.2 w'
end
end Cm

set_option linter.all false
/-! classes of errors with fields: their facts as one check -/
namespace Cm
open PySem L2 PySem.Spec PyProof.Rows
/-- the def within a class of the text -/
def iniS : Stmt → Stmt
  | .ClassDef _ _ _ b _ _ _ _ _ _ _ => b.getD 0 (.Pass ⟨0, 0, 0, 0⟩)
  | s => s
theorem two_of {α : Type} {xs : List α} (h : xs.length = 2) : ∃ x y, xs = [x, y] := by
  cases xs with
  | nil => simp at h
  | cons a r =>
    obtain ⟨b, rfl⟩ := one_of (show r.length = 1 by simpa using h)
    exact ⟨a, b, rfl⟩
def excB (K : PySem.W.Frag) (C : Addr) : Bool :=
  PySem.W.findIn K (.ref C) "__getattribute__" == some (some (.builtin "BaseException.__getattribute__")) && (PySem.W.findIn K (.ref C) "__getattr__" == some Option.none && (PySem.W.subIn K (.ref C) (.type "BaseException") == some true && (PySem.W.hasDictIn K C &&
    (PySem.W.findIn K (.ref C) "__class__" == some (some (.builtin "object.__class__")) && (PySem.W.specialIn K (.builtin "object.__class__") "__get__" == some (some (.builtin "getset_descriptor.__get__")) && (PySem.W.takesIn K (.builtin "object.__class__") == some true &&
      (PySem.W.mroIn K C (.type "object") == some true && (PySem.W.typeIn K (.ref C) == some (.type "type") && PySem.W.keepIn K (.ref C)))))))))
def clsB (K : PySem.W.Frag) (C fI : Addr) (fl : List Str) : Bool :=
  excB K C && (PySem.W.findIn K (.ref C) "__setattr__" == some (some (.builtin "object.__setattr__")) && ((fl.all fun f => PySem.W.findIn K (.ref C) f == some Option.none) && (PySem.W.typeIn K (.ref fI) == some (.type "function") && PySem.W.keepIn K (.ref fI))))
structure ExcF (K : PySem.W.Frag) (C : Addr) : Prop where
  ec : ExcC K C
  xf : XfC K C
  ty : PySem.W.typeIn K (.ref C) = some (.type "type")
  kp : PySem.W.keepIn K (.ref C) = true
theorem excB_ok {K : PySem.W.Frag} {C : Addr} (h : excB K C = true) : ExcF K C := by
  simp only [excB, Bool.and_eq_true, beq_iff_eq] at h
  obtain ⟨h1, h2, h3, h4, h5, h6, h7, h8, h9, h10⟩ := h
  exact ⟨⟨h1, h2, h3, h4, h5, h6, h7, h8⟩, ⟨h1, h2, h3, h4⟩, h9, h10⟩
theorem clsB_exc {K : PySem.W.Frag} {C fI : Addr} {fl : List Str} (h : clsB K C fI fl = true) : ExcF K C := by
  simp only [clsB, Bool.and_eq_true] at h
  exact excB_ok h.1
theorem clsB_kI {K : PySem.W.Frag} {C fI : Addr} {fl : List Str} (h : clsB K C fI fl = true) : PySem.W.keepIn K (.ref fI) = true := by
  simp only [clsB, Bool.and_eq_true, beq_iff_eq] at h
  exact h.2.2.2.2
theorem mk_of {P : Program} {w : World} {K : PySem.W.Frag} {h : Heap} {mg : Str → Option Value} {base : Heap} {C fI R : Addr} {x : Str} {fl ps : List Str} {fd : FuncData} (X : K.In h) (G : h.Ns mainGlobals mg) (a : PySem.W.nsIn K mainGlobals x = some (some (.ref C)))
    {nm q : Str} {N : Addr} {bs : List Value} {sn : List Str} {sub : List Value} {ab : Bool} {col : Option Bool} {dd : Option Addr} {m0 m1 m2 m3 m5 : Option Value}
    (xl : K.lookup C = some (excClassObj nm q C N bs [.ref R, .type "ValueError", .type "Exception", .type "BaseException", .type "object"] true sn sub ab col dd m0 m1 m2 m3 m5 "ValueError.__new__"))
    (i : PySem.W.findIn K (.ref C) "__init__" = some (some (.ref fI))) (o : clsB K C fI fl = true) (F : FnOk P w K mg base CX0 1 fI fd ps (spI K fl)) (b : Binds K fd ps []) : Mk P w K mg base C x fl := by
  simp only [clsB, Bool.and_eq_true, beq_iff_eq, List.all_eq_true] at o
  obtain ⟨o1, o2, o3, o4, o5⟩ := o
  have E := excB_ok o1
  refine ⟨⟨⟨nm, q, N, bs, _, sn, sub, ab, col, dd, m0, m1, m2, m3, m5, xl, ?_⟩, o2, E.ec.hs, E.ty, E.kp⟩, PySem.W.mg_of X G a, E.xf, E.ec, o3, fI, fd, ps, i, o4, F, b⟩
  show PySem.HandSPX.refsVE [.type "ValueError", .type "Exception", .type "BaseException", .type "object"] = true
  decide +kernel
/-- caught by its own name -/
theorem exm_own {K : PySem.W.Frag} {C fI : Addr} {fl : List Str} (o : clsB K C fI fl = true) (s : PySem.W.subIn K (.ref C) (.ref C) = some true) : PySem.W.exmOne K (.ref C) (.ref C) = some true := by
  have E := clsB_exc o
  exact PySem.W.exm_ref E.ec.hs E.ec.hd E.ty s
end Cm

set_option linter.all false
/-! displays of tuples out of written texts, written numbers and names, as one step -/
namespace Cm
open PySem L2 PySem.Spec PyProof.Rows
inductive DX where
  | str (x : Str)
  | int (i : Int)
  | slot (i : Nat)
  | tup (xs : List DX)
mutual
def DX.data (ρ : Nat → PyData) : DX → PyData
  | .str x => .str x
  | .int i => .int i
  | .slot i => ρ i
  | .tup xs => .tuple (DX.datas ρ xs)
def DX.datas (ρ : Nat → PyData) : List DX → List PyData
  | [] => []
  | x :: xs => x.data ρ :: DX.datas ρ xs
end
mutual
def DX.slots : DX → List Nat
  | .str _ => []
  | .int _ => []
  | .slot i => [i]
  | .tup xs => DX.slotss xs
def DX.slotss : List DX → List Nat
  | [] => []
  | x :: xs => x.slots ++ DX.slotss xs
end
/-- the names hold such data -/
def Has (K : PySem.W.Frag) (ρ : Nat → PyData) (σ : L2.St) (H : Hp) : List Nat → Prop
  | [] => True
  | i :: r => (∃ v, σ[i]? = some (some v) ∧ Dp K H v (ρ i)) ∧ Has K ρ σ H r
theorem Has.same {K : PySem.W.Frag} {ρ : Nat → PyData} {σ : L2.St} {H H' : Hp} (s : Same H H') : ∀ {l : List Nat}, Has K ρ σ H l → Has K ρ σ H' l
  | [], _ => trivial
  | _ :: _, ⟨⟨v, e, h⟩, r⟩ => ⟨⟨v, e, dp_same s _ _ h⟩, Has.same s r⟩
theorem Has.app {K : PySem.W.Frag} {ρ : Nat → PyData} {σ : L2.St} {H : Hp} : ∀ {l m : List Nat}, Has K ρ σ H (l ++ m) → Has K ρ σ H l ∧ Has K ρ σ H m
  | [], _, h => ⟨trivial, h⟩
  | _ :: _, _, ⟨a, r⟩ => ⟨⟨a, (Has.app r).1⟩, (Has.app r).2⟩
def tD (K : PySem.W.Frag) (d : DX) : TE := fun σ H Q => ∃ ρ : Nat → PyData, Has K ρ σ H d.slots ∧ ∀ v H', Same H H' → Dp K H' v (d.data ρ) → Q v H'
def tDs (K : PySem.W.Frag) (ds : List DX) : TA := fun σ H Q => ∃ ρ : Nat → PyData, Has K ρ σ H (DX.slotss ds) ∧ ∀ vs H', Same H H' → DpAll K H' vs (DX.datas ρ ds) → Q vs H'
section
variable {X : Cx} {K : PySem.W.Frag}
theorem pd_str {x : Str} {j : Nat} {pos : Pos} : PE X (.Constant (.str x) j pos) (tD K (.str x)) :=
  ⟨fun pins s σ H Q I ⟨ρ, _, k⟩ => pe_str.run pins s σ H Q I (k _ H (Same.refl H) (.str x))⟩
theorem pd_int {i : Int} {j : Nat} {pos : Pos} : PE X (.Constant (.int i) j pos) (tD K (.int i)) :=
  ⟨fun pins s σ H Q I ⟨ρ, _, k⟩ => pe_int.run pins s σ H Q I (k _ H (Same.refl H) (.int i))⟩
theorem pd_slot {i : Nat} {e : Expr} (h : PE X e (tVar i)) : PE X e (tD K (.slot i)) :=
  ⟨fun pins s σ H Q I ⟨ρ, ⟨⟨v, ev, hv⟩, _⟩, k⟩ => h.run pins s σ H Q I ⟨v, ev, k v H (Same.refl H) hv⟩⟩
theorem pd_nil : PA X [] (tDs K []) :=
  ⟨fun pos pins s σ H Q I ⟨ρ, _, k⟩ => pa_nil.run pos pins s σ H Q I (k [] H (Same.refl H) .nil)⟩
theorem pd_cons {e : Expr} {es : List Expr} {d : DX} {ds : List DX} (h : PE X e (tD K d)) (r : PA X es (tDs K ds)) (hs : starEach (e :: es) X.env = (false, eval e X.env) :: starEach es X.env := by rfl) : PA X (e :: es) (tDs K (d :: ds)) :=
  ⟨fun pos pins s σ H Q I ⟨ρ, hh, k⟩ => (pa_cons h r hs).run pos pins s σ H Q I
    ⟨ρ, (Has.app hh).1, fun v H1 s1 hv => ⟨ρ, (Has.app hh).2.same s1, fun vs H2 s2 hvs => k (v :: vs) H2 (s1.trans s2) (.cons (dp_same s2 _ _ hv) hvs)⟩⟩⟩
theorem datas_len {ρ : Nat → PyData} : ∀ ds : List DX, (DX.datas ρ ds).length = ds.length
  | [] => rfl
  | d :: ds => congrArg (· + 1) (datas_len ds)
theorem pd_tup {es : List Expr} {ds : List DX} {k : Nat} {pos : Pos} (h : PA X es (tDs K ds)) (hl : ds.length ≤ 1000 := by decide) : PE X (.Tuple es k pos) (tD K (.tup ds)) :=
  ⟨fun pins s σ H Q I ⟨ρ, hh, k⟩ => (pe_tup h).run pins s σ H Q I ⟨ρ, hh, fun vs H1 s1 hvs => ⟨by
      have e := DpAll.len hvs
      rw [datas_len] at e
      rw [e]
      exact Nat.le_trans hl (by decide), fun p hp => k _ _ (s1.trans (same_new hp)) (.tup (.inl (.inl upd_same)) (dps_same (same_new hp) _ _ hvs))⟩⟩⟩
end
theorem iteEq {x y : Str} {A B : Prop} (h : x = y) (a : A) : if decide (V.str x = V.str y) = true then A else B := by
  rw [decS, decide_eq_true h]
  exact iteT a
theorem iteNe {x y : Str} {A B : Prop} (h : ¬ x = y) (b : B) : if decide (V.str x = V.str y) = true then A else B := by
  rw [decS, decide_eq_false h]
  exact iteF b
theorem iteIn {x : Str} {ws : List Str} {A B : Prop} (h : x ∈ ws) (a : A) : if inV (.str x) (ws.map V.str) = true then A else B := by
  rw [in_words, decide_eq_true h]
  exact iteT a
theorem iteNi {x : Str} {ws : List Str} {A B : Prop} (h : ¬ x ∈ ws) (b : B) : if inV (.str x) (ws.map V.str) = true then A else B := by
  rw [in_words, decide_eq_false h]
  exact iteF b
theorem mem_str {ws : List Str} {v : V} (h : v ∈ ws.map V.str) : ∃ w, w ∈ ws ∧ v = .str w := by
  obtain ⟨w, hw, rfl⟩ := List.mem_map.mp h
  exact ⟨w, hw, rfl⟩
end Cm

set_option linter.all false
/-! displays of tuples whose parts may draw, as one step -/
namespace Cm
open PySem L2 PySem.Spec PyProof.Rows
inductive GX where
  | str (x : Str)
  | int (i : Int)
  | slot (i : Nat)
  | ex (n : Nat) (te : TE)
  | tup (xs : List GX)
mutual
def GX.data (ρ τ : Nat → PyData) : GX → PyData
  | .str x => .str x
  | .int i => .int i
  | .slot i => ρ i
  | .ex n _ => τ n
  | .tup xs => .tuple (GX.datas ρ τ xs)
def GX.datas (ρ τ : Nat → PyData) : List GX → List PyData
  | [] => []
  | x :: xs => x.data ρ τ :: GX.datas ρ τ xs
end
mutual
def GX.slots : GX → List Nat
  | .slot i => [i]
  | .tup xs => GX.slotss xs
  | _ => []
def GX.slotss : List GX → List Nat
  | [] => []
  | x :: xs => x.slots ++ GX.slotss xs
end
mutual
def GX.exs : GX → List (Nat × TE)
  | .ex n te => [(n, te)]
  | .tup xs => GX.exss xs
  | _ => []
def GX.exss : List GX → List (Nat × TE)
  | [] => []
  | x :: xs => x.exs ++ GX.exss xs
end
/-- the names hold such data, without lists -/
def HasF (K : PySem.W.Frag) (ρ : Nat → PyData) (σ : L2.St) (H : Hp) : List Nat → Prop
  | [] => True
  | i :: r => (∃ v, σ[i]? = some (some v) ∧ Dp K H v (ρ i) ∧ flatD (ρ i) = true) ∧ HasF K ρ σ H r
theorem HasF.kp {K : PySem.W.Frag} {M : Addr → Prop} {ρ : Nat → PyData} {σ : L2.St} {H H' : Hp} (s : Kp M H H') : ∀ {l : List Nat}, HasF K ρ σ H l → HasF K ρ σ H' l
  | [], _ => trivial
  | _ :: _, ⟨⟨v, e, h, f⟩, r⟩ => ⟨⟨v, e, dp_keep (fun _ _ q => s.tup q) _ _ f h, f⟩, HasF.kp s r⟩
theorem HasF.app {K : PySem.W.Frag} {ρ : Nat → PyData} {σ : L2.St} {H : Hp} : ∀ {l m : List Nat}, HasF K ρ σ H (l ++ m) → HasF K ρ σ H l ∧ HasF K ρ σ H m
  | [], _, h => ⟨trivial, h⟩
  | _ :: _, _, ⟨a, r⟩ => ⟨⟨a, (HasF.app r).1⟩, (HasF.app r).2⟩
/-- each part that draws gives data that is good, wherever it is asked -/
def AllE (K : PySem.W.Frag) (h c : Addr) (S : Nat → PyData → Prop) (σ : L2.St) (H : Hp) : List (Nat × TE) → Prop
  | [] => True
  | e :: r => (∀ H1, Kh h H H1 → Hand H1 h c → e.2 σ H1 fun x H2 => Kh h H1 H2 ∧ Hand H2 h c ∧ ∃ d, S e.1 d ∧ flatD d = true ∧ Dp K H2 x d) ∧ AllE K h c S σ H r
theorem AllE.kp {K : PySem.W.Frag} {h c : Addr} {S : Nat → PyData → Prop} {σ : L2.St} {H H' : Hp} (s : Kh h H H') : ∀ {l : List (Nat × TE)}, AllE K h c S σ H l → AllE K h c S σ H' l
  | [], _ => trivial
  | _ :: _, ⟨a, r⟩ => ⟨fun H1 k x => a H1 (s.trans k) x, AllE.kp s r⟩
theorem AllE.app {K : PySem.W.Frag} {h c : Addr} {S : Nat → PyData → Prop} {σ : L2.St} {H : Hp} : ∀ {l m : List (Nat × TE)}, AllE K h c S σ H (l ++ m) → AllE K h c S σ H l ∧ AllE K h c S σ H m
  | [], _, q => ⟨trivial, q⟩
  | _ :: _, _, ⟨a, r⟩ => ⟨⟨a, (AllE.app r).1⟩, (AllE.app r).2⟩
/-- what was drawn -/
def AllS (S : Nat → PyData → Prop) (τ : Nat → PyData) : List (Nat × TE) → Prop
  | [] => True
  | e :: r => S e.1 (τ e.1) ∧ AllS S τ r
def nums (l : List (Nat × TE)) : List Nat := l.map (·.1)
mutual
theorem flat_gdata {K : PySem.W.Frag} {ρ τ : Nat → PyData} {σ : L2.St} {H : Hp} : ∀ (d : GX), HasF K ρ σ H d.slots → (∀ n, flatD (τ n) = true) → flatD (d.data ρ τ) = true
  | .str _, _, _ => rfl
  | .int _, _, _ => rfl
  | .slot _, ⟨⟨_, _, _, f⟩, _⟩, _ => f
  | .ex n _, _, t => t n
  | .tup xs, h, t => by
    show flatDs (GX.datas ρ τ xs) = true
    exact flat_gdatas xs h t
theorem flat_gdatas {K : PySem.W.Frag} {ρ τ : Nat → PyData} {σ : L2.St} {H : Hp} : ∀ (ds : List GX), HasF K ρ σ H (GX.slotss ds) → (∀ n, flatD (τ n) = true) → flatDs (GX.datas ρ τ ds) = true
  | [], _, _ => rfl
  | d :: ds, h, t => by
    have h1 := flat_gdata d h.app.1 t
    have h2 := flat_gdatas ds h.app.2 t
    show (flatD (d.data ρ τ) && flatDs (GX.datas ρ τ ds)) = true
    rw [h1, h2]
    rfl
end
/-- the data of parts with numbers of their own -/
def put (τ : Nat → PyData) (n : Nat) (d : PyData) : Nat → PyData := fun m => if m = n then d else τ m
mutual
theorem data_eq {ρ τ τ' : Nat → PyData} : ∀ (d : GX), (∀ n ∈ nums d.exs, τ n = τ' n) → d.data ρ τ = d.data ρ τ'
  | .str _, _ => rfl
  | .int _, _ => rfl
  | .slot _, _ => rfl
  | .ex n te, h => h n List.mem_cons_self
  | .tup xs, h => congrArg PyData.tuple (datas_eq xs h)
theorem datas_eq {ρ τ τ' : Nat → PyData} : ∀ (ds : List GX), (∀ n ∈ nums (GX.exss ds), τ n = τ' n) → GX.datas ρ τ ds = GX.datas ρ τ' ds
  | [], _ => rfl
  | d :: ds, h => by
    have h' : ∀ n ∈ nums (d.exs ++ GX.exss ds), τ n = τ' n := h
    unfold nums at h'
    rw [List.map_append] at h'
    have e1 := data_eq (ρ := ρ) (τ := τ) (τ' := τ') d fun n m => h' n (List.mem_append_left _ m)
    have e2 := datas_eq (ρ := ρ) (τ := τ) (τ' := τ') ds fun n m => h' n (List.mem_append_right _ m)
    show d.data ρ τ :: GX.datas ρ τ ds = d.data ρ τ' :: GX.datas ρ τ' ds
    rw [e1, e2]
end
theorem alls_eq {S : Nat → PyData → Prop} {τ τ' : Nat → PyData} : ∀ {l : List (Nat × TE)}, (∀ n ∈ nums l, τ n = τ' n) → AllS S τ l → AllS S τ' l
  | [], _, _ => trivial
  | e :: r, h, ⟨a, b⟩ => ⟨by rw [← h e.1 List.mem_cons_self]; exact a, alls_eq (fun n m => h n (List.mem_cons_of_mem _ m)) b⟩
theorem alls_app {S : Nat → PyData → Prop} {τ : Nat → PyData} : ∀ {l m : List (Nat × TE)}, AllS S τ l → AllS S τ m → AllS S τ (l ++ m)
  | [], _, _, q => q
  | _ :: _, _, ⟨a, r⟩, q => ⟨a, alls_app r q⟩
def tG (K : PySem.W.Frag) (d : GX) : TE := fun σ H Q => ∃ (h c : Addr) (ρ : Nat → PyData) (S : Nat → PyData → Prop), Hand H h c ∧ HasF K ρ σ H d.slots ∧ AllE K h c S σ H d.exs ∧
  ∀ v H' τ, Kh h H H' → Hand H' h c → AllS S τ d.exs → (∀ n, flatD (τ n) = true) → Dp K H' v (d.data ρ τ) → Q v H'
def tGs (K : PySem.W.Frag) (ds : List GX) : TA := fun σ H Q => ∃ (h c : Addr) (ρ : Nat → PyData) (S : Nat → PyData → Prop), Hand H h c ∧ HasF K ρ σ H (GX.slotss ds) ∧ AllE K h c S σ H (GX.exss ds) ∧
  ∀ vs H' τ, Kh h H H' → Hand H' h c → AllS S τ (GX.exss ds) → (∀ n, flatD (τ n) = true) → DpAll K H' vs (GX.datas ρ τ ds) → Q vs H'
section
variable {X : Cx} {K : PySem.W.Frag}
theorem pgx_str {x : Str} {j : Nat} {pos : Pos} : PE X (.Constant (.str x) j pos) (tG K (.str x)) :=
  ⟨fun pins s σ H Q I ⟨h, c, ρ, S, hh, _, _, k⟩ => pe_str.run pins s σ H Q I (k _ H (fun _ => .none) hh.kr hh trivial (fun _ => rfl) (.str x))⟩
theorem pgx_int {i : Int} {j : Nat} {pos : Pos} : PE X (.Constant (.int i) j pos) (tG K (.int i)) :=
  ⟨fun pins s σ H Q I ⟨h, c, ρ, S, hh, _, _, k⟩ => pe_int.run pins s σ H Q I (k _ H (fun _ => .none) hh.kr hh trivial (fun _ => rfl) (.int i))⟩
theorem pgx_slot {i : Nat} {e : Expr} (h : PE X e (tVar i)) : PE X e (tG K (.slot i)) :=
  ⟨fun pins s σ H Q I ⟨h', c, ρ, S, hh, ⟨⟨v, ev, hv, _⟩, _⟩, _, k⟩ => h.run pins s σ H Q I ⟨v, ev, k v H (fun _ => .none) hh.kr hh trivial (fun _ => rfl) hv⟩⟩
theorem pgx_ex {e : Expr} {te : TE} (n : Nat) (he : PE X e te) : PE X e (tG K (.ex n te)) :=
  ⟨fun pins s σ H Q I ⟨h, c, ρ, S, hh, _, a, k⟩ => wpAny_mono (he.run pins s σ H _ I (a.1 H hh.kr hh)) (fun u s1 ⟨x, H2, I2, r, ⟨k2, hh2, d, sd, fd, hd⟩⟩ =>
    ⟨x, H2, I2, r, k x H2 (fun _ => d) k2 hh2 ⟨sd, trivial⟩ (fun _ => fd) hd⟩) (fun _ _ z => z)⟩
theorem pgx_nil : PA X [] (tGs K []) :=
  ⟨fun pos pins s σ H Q I ⟨h, c, ρ, S, hh, _, _, k⟩ => pa_nil.run pos pins s σ H Q I (k [] H (fun _ => .none) hh.kr hh trivial (fun _ => rfl) .nil)⟩
/-- the numbers of the first part are not those of the others -/
def apart (l m : List (Nat × TE)) : Bool := (nums l).all fun n => !(nums m).contains n
theorem pgx_cons {e : Expr} {es : List Expr} {d : GX} {ds : List GX} (hd : PE X e (tG K d)) (r : PA X es (tGs K ds)) (ap : apart d.exs (GX.exss ds) = true := by rfl)
    (hs : starEach (e :: es) X.env = (false, eval e X.env) :: starEach es X.env := by rfl) : PA X (e :: es) (tGs K (d :: ds)) :=
  ⟨fun pos pins s σ H Q I ⟨h, c, ρ, S, hh, hf, ha, k⟩ => (pa_cons hd r hs).run pos pins s σ H Q I
    ⟨h, c, ρ, S, hh, hf.app.1, ha.app.1, fun v H1 τ1 k1 hh1 a1 f1 hv => ⟨h, c, ρ, S, hh1, hf.app.2.kp k1, ha.app.2.kp k1, fun vs H2 τ2 k2 hh2 a2 f2 hvs => by
      have no : ∀ n ∈ nums d.exs, ¬ n ∈ nums (GX.exss ds) := fun n m z => by
        have := List.all_eq_true.mp ap n m
        rw [List.contains_iff_mem.mpr z] at this
        cases this
      let τ : Nat → PyData := fun n => if n ∈ nums d.exs then τ1 n else τ2 n
      have e1 : ∀ n ∈ nums d.exs, τ1 n = τ n := fun n m => (if_pos m).symm
      have e2 : ∀ n ∈ nums (GX.exss ds), τ2 n = τ n := fun n m => (if_neg (fun z => no n z m)).symm
      refine k (v :: vs) H2 τ (k1.trans k2) hh2 (alls_app (alls_eq e1 a1) (alls_eq e2 a2)) (fun n => ?_) ?_
      · show flatD (if n ∈ nums d.exs then τ1 n else τ2 n) = true
        split
        · exact f1 n
        · exact f2 n
      · show DpAll K H2 (v :: vs) (d.data ρ τ :: GX.datas ρ τ ds)
        rw [← data_eq d e1, ← datas_eq ds e2]
        exact .cons (dp_keep (fun _ _ q => k2.tup q) _ _ (flat_gdata d hf.app.1 f1) hv) hvs⟩⟩⟩
theorem gdatas_len {ρ τ : Nat → PyData} : ∀ ds : List GX, (GX.datas ρ τ ds).length = ds.length
  | [] => rfl
  | d :: ds => congrArg (· + 1) (gdatas_len ds)
theorem pgx_tup {es : List Expr} {ds : List GX} {k : Nat} {pos : Pos} (h : PA X es (tGs K ds)) (hl : ds.length ≤ 1000 := by exact Nat.le_of_ble_eq_true rfl) : PE X (.Tuple es k pos) (tG K (.tup ds)) :=
  ⟨fun pins s σ H Q I ⟨h', c, ρ, S, hh, hf, ha, k⟩ => (pe_tup h).run pins s σ H Q I ⟨h', c, ρ, S, hh, hf, ha, fun vs H1 τ k1 hh1 a1 f1 hvs => ⟨by
      have e := DpAll.len hvs
      rw [gdatas_len] at e
      rw [e]
      exact Nat.le_trans hl (by decide), fun p hp => k _ _ τ (k1.trans (hh1.kh (same_new hp))) (hh1.same (same_new hp)) a1 f1 (.tup (.inl (.inl upd_same)) (dps_same (same_new hp) _ _ hvs))⟩⟩⟩
end
end Cm

set_option linter.all false
/-! how deep the data of a tree is; where a name is used -/
namespace Cm
open PySem L2 PySem.Spec PyProof.Rows
def wt (b : Nat) : Hd → Nat
  | .bind _ _ => 3
  | .doo => 2
  | .call => 2
  | .op _ => 2
  | .plain w => if w = "wind" then 1 + b else 1
  | _ => 1
mutual
def Tr.dd (b : Nat) : Tr → Nat
  | .mk h ps => wt b h + Tr.dds b ps
def Tr.dds (b : Nat) : List Tr → Nat
  | [] => 0
  | t :: ts => max (t.dd b) (Tr.dds b ts)
end
theorem dds_le {b n : Nat} : ∀ {ps : List Tr}, Tr.dds b ps ≤ n ↔ ∀ t ∈ ps, t.dd b ≤ n
  | [] => by simp [Tr.dds]
  | t :: ts => by
    have := dds_le (b := b) (n := n) (ps := ts)
    show max (t.dd b) (Tr.dds b ts) ≤ n ↔ _
    rw [Nat.max_le, this]
    simp
theorem wt_pos (b : Nat) (h : Hd) : 1 ≤ wt b h := by
  cases h with
  | plain w =>
    show 1 ≤ (if w = "wind" then 1 + b else 1)
    split <;> omega
  | _ => exact Nat.le_of_ble_eq_true rfl
theorem dd_pos (b : Nat) (t : Tr) : 1 ≤ t.dd b := by
  cases t with
  | mk h ps =>
    have := wt_pos b h
    show 1 ≤ wt b h + Tr.dds b ps
    omega
theorem dep_dd (b : Nat) (t : Tr) : t.dep ≤ t.dd b := by
  refine tr_ind (P := fun t => t.dep ≤ t.dd b) (fun h ps ih => ?_) t
  have h1 := wt_pos b h
  have h2 : Tr.deps ps ≤ Tr.dds b ps := deps_le.mpr fun t m => Nat.le_trans (ih t m) (dds_le.mp (Nat.le_refl _) t m)
  show Tr.deps ps + 1 ≤ wt b h + Tr.dds b ps
  omega
theorem lay_encD {b m : Nat} {h : Hd} {ds : List PyData} (o : hok h ds.length) (f : ∀ d ∈ ds, Lay m d) (p : ds ≠ [] → 1 ≤ m) : Lay (wt b h + m) (encH h ds) := by
  have hw : ∀ w, (w ∈ litW ∨ w ∈ oneW ∨ w ∈ bindW ∨ w ∈ plainW) → ∀ n, Lay n (.str w) := fun w q n => .str (words_sok w (by
    simp only [List.mem_append]
    rcases q with q | q | q | q
    · exact .inl (.inl (.inl q))
    · exact .inl (.inl (.inr q))
    · exact .inl (.inr q)
    · exact .inr q)) _
  have c : ∀ {n : Nat} {d : PyData} {ds : List PyData}, Lay n d → (∀ e ∈ ds, Lay n e) → ∀ e ∈ d :: ds, Lay n e := fun a b e q => by
    rcases List.mem_cons.mp q with rfl | q
    · exact a
    · exact b e q
  have nil : ∀ {n : Nat}, ∀ e ∈ ([] : List PyData), Lay n e := fun e q => by cases q
  have S : ∀ (n : Nat) (w : Str), sok w → Lay n (.str w) := fun n w h => .str h _
  cases h with
  | num i => exact (Lay.tup (n := m) (c (S m "number" (by decide +kernel)) (c (.int i _) nil))).mono (by show m + 1 ≤ 1 + m; omega)
  | name x => exact (Lay.tup (n := m) (c (S m "name" (by decide +kernel)) (c (S m x o.2) nil))).mono (by show m + 1 ≤ 1 + m; omega)
  | lit w => exact (Lay.tup (n := m) (c (hw w (.inl o.2) m) nil)).mono (by show m + 1 ≤ 1 + m; omega)
  | one w x => exact (Lay.tup (n := m) (c (hw w (.inr (.inl o.2.1)) m) (c (S m x o.2.2) f))).mono (by show m + 1 ≤ 1 + m; omega)
  | fn xs =>
    have p1 := p (fun z => by rw [z] at o; exact absurd o.1 (by decide))
    obtain ⟨m', rfl⟩ : ∃ m', m = m' + 1 := ⟨m - 1, by omega⟩
    exact (Lay.tup (n := m' + 1) (c (S _ "fn" (by decide +kernel)) (c (lay_strs o.2.2 m') f))).mono (by show m' + 1 + 1 ≤ 1 + (m' + 1); omega)
  | bind w xs =>
    refine (Lay.tup (n := m + 2) (c (hw w (.inr (.inr (.inl o.2.1))) _) (c (Lay.tup (n := m + 1) fun d hd => ?_) fun d hd => (f d (List.mem_of_mem_drop hd)).mono (by omega)))).mono (by show m + 2 + 1 ≤ 3 + m; omega)
    obtain ⟨q, hq, rfl⟩ := List.mem_map.mp hd
    have hz := List.of_mem_zip (show (q.1, q.2) ∈ xs.zip ds from hq)
    refine Lay.tup (n := m) fun d hd => ?_
    simp only [List.mem_cons, List.not_mem_nil, or_false] at hd
    rcases hd with rfl | rfl
    · exact .str (o.2.2 _ hz.1) _
    · exact f _ hz.2
  | doo => exact (Lay.tup (n := m + 1) (c (S _ "do" (by decide +kernel)) (c (Lay.tup f) nil))).mono (by show m + 1 + 1 ≤ 2 + m; omega)
  | call =>
    refine (Lay.tup (n := m + 1) (c (S _ "call" (by decide +kernel)) fun d hd => ?_)).mono (by show m + 1 + 1 ≤ 2 + m; omega)
    rcases List.mem_append.mp hd with hd | hd
    · exact (f d (List.mem_of_mem_take hd)).mono (by omega)
    · cases List.mem_singleton.mp hd
      exact Lay.tup fun d q => f d (List.mem_of_mem_drop q)
  | op o' => exact (Lay.tup (n := m + 1) (c (S _ "op" (by decide +kernel)) (c (S _ o' o) (c (Lay.tup f) nil)))).mono (by show m + 1 + 1 ≤ 2 + m; omega)
  | plain w => exact (Lay.tup (n := m) (c (hw w (.inr (.inr (.inr o))) m) f)).mono (by have := wt_pos b (.plain w); omega)
theorem lay_dd (b : Nat) (t : Tr) : t.ok → Lay (t.dd b) t.enc := by
  refine tr_ind (P := fun t => t.ok → Lay (t.dd b) t.enc) (fun h ps ih o => ?_) t
  have o' : hok h ps.length ∧ ps.length ≤ 11 ∧ Tr.oks ps := o
  show Lay (wt b h + Tr.dds b ps) (encH h (Tr.encL ps))
  refine lay_encD (by rw [encL_len]; exact o'.1) (fun d hd => ?_) fun z => ?_
  · rw [encL_map] at hd
    obtain ⟨u, m, rfl⟩ := List.mem_map.mp hd
    exact (ih u m (oks_iff.mp o'.2.2 u m)).mono (dds_le.mp (Nat.le_refl _) u m)
  · cases ps with
    | nil => exact absurd rfl z
    | cons u r =>
      have := dd_pos b u
      show 1 ≤ max (u.dd b) (Tr.dds b r)
      omega
/-! ### where a name is used -/
def baseU (x : Str) : Hd → List (List Int × Str)
  | .name y => if y = x then [([], "read")] else []
  | .one w y => if w = "set" ∧ y = x then [([], "set")] else []
  | _ => []
def isNm (x : Str) : Hd → Bool
  | .name y => decide (y = x)
  | _ => false
/-- the called part of a call of one argument that is a name -/
def cal (h : Hd) (n i : Nat) (t : Tr) : Bool := isCall h && decide (n = 2) && decide (i = 0) && isName t.hd
def hw (c : Bool) (s : Str) : Str := if c = true then "called" else s
mutual
def Tr.uses (x : Str) : Tr → List (List Int × Str)
  | .mk h ps => baseU x h ++ Tr.usesL x h ps.length 0 ps
def Tr.usesL (x : Str) (h : Hd) (n : Nat) : Nat → List Tr → List (List Int × Str)
  | _, [] => []
  | i, t :: ts => (if x ∈ under h n i then [] else (t.uses x).map fun p => (((i : Nat) : Int) :: p.1, hw (cal h n i t) p.2)) ++ Tr.usesL x h n (i + 1) ts
end
def rawL (x : Str) (h : Hd) (n : Nat) : Nat → List Tr → List (List Int × Str)
  | _, [] => []
  | i, t :: ts => (if x ∈ under h n i then [] else (t.uses x).map fun p => (((i : Nat) : Int) :: p.1, p.2)) ++ rawL x h n (i + 1) ts
theorem usesL_snoc (x : Str) (h : Hd) (n : Nat) (t : Tr) : ∀ (ts : List Tr) (i : Nat), Tr.usesL x h n i (ts ++ [t]) = Tr.usesL x h n i ts ++ (if x ∈ under h n (i + ts.length) then [] else (t.uses x).map fun p => (((i + ts.length : Nat) : Int) :: p.1, hw (cal h n (i + ts.length) t) p.2))
  | [], i => by
    show (if x ∈ under h n i then [] else _) ++ [] = [] ++ _
    simp
  | a :: ts, i => by
    show (if x ∈ under h n i then [] else _) ++ Tr.usesL x h n (i + 1) (ts ++ [t]) = ((if x ∈ under h n i then [] else _) ++ Tr.usesL x h n (i + 1) ts) ++ _
    rw [usesL_snoc x h n t ts (i + 1), List.append_assoc, List.length_cons, show i + 1 + ts.length = i + (ts.length + 1) by omega]
theorem rawL_snoc (x : Str) (h : Hd) (n : Nat) (t : Tr) : ∀ (ts : List Tr) (i : Nat), rawL x h n i (ts ++ [t]) = rawL x h n i ts ++ (if x ∈ under h n (i + ts.length) then [] else (t.uses x).map fun p => (((i + ts.length : Nat) : Int) :: p.1, p.2))
  | [], i => by
    show (if x ∈ under h n i then [] else _) ++ [] = [] ++ _
    simp
  | a :: ts, i => by
    show (if x ∈ under h n i then [] else _) ++ rawL x h n (i + 1) (ts ++ [t]) = ((if x ∈ under h n i then [] else _) ++ rawL x h n (i + 1) ts) ++ _
    rw [rawL_snoc x h n t ts (i + 1), List.append_assoc, List.length_cons, show i + 1 + ts.length = i + (ts.length + 1) by omega]
theorem raw_eq {x : Str} {h : Hd} {n : Nat} : ∀ {ts : List Tr} {i : Nat}, (∀ j t, ts[j]? = some t → cal h n (i + j) t = true → t.uses x = []) → rawL x h n i ts = Tr.usesL x h n i ts
  | [], _, _ => rfl
  | t :: ts, i, q => by
    show (if x ∈ under h n i then [] else _) ++ rawL x h n (i + 1) ts = (if x ∈ under h n i then [] else _) ++ Tr.usesL x h n (i + 1) ts
    have e1 := raw_eq (x := x) (h := h) (n := n) (ts := ts) (i := i + 1) fun j t' e c => q (j + 1) t' (by simpa using e) (by rw [show i + (j + 1) = i + 1 + j by omega]; exact c)
    rw [e1]
    congr 1
    by_cases m : x ∈ under h n i
    · rw [if_pos m, if_pos m]
    · rw [if_neg m, if_neg m]
      by_cases c : cal h n i t = true
      · rw [q 0 t rfl c]; rfl
      · refine List.map_congr_left fun p _ => ?_
        show _ = (((i : Nat) : Int) :: p.1, (if cal h n i t = true then "called" else p.2 : Str))
        rw [if_neg c]
theorem baseU_len (x : Str) (h : Hd) : (baseU x h).length ≤ 1 := by
  cases h with
  | name y => show (if y = x then [([], "read")] else [] : List (List Int × Str)).length ≤ 1; split <;> simp
  | one w y => show (if w = "set" ∧ y = x then [([], "set")] else [] : List (List Int × Str)).length ≤ 1; split <;> simp
  | _ => exact Nat.zero_le _
mutual
theorem uses_len (x : Str) : ∀ t : Tr, (t.uses x).length ≤ t.size
  | .mk h ps => by
    have h1 := baseU_len x h
    have h2 := usesL_len x h ps.length 0 ps
    show (baseU x h ++ Tr.usesL x h ps.length 0 ps).length ≤ Tr.sizes ps + 1
    rw [List.length_append]
    omega
theorem usesL_len (x : Str) (h : Hd) (n : Nat) : ∀ (i : Nat) (ts : List Tr), (Tr.usesL x h n i ts).length ≤ Tr.sizes ts
  | _, [] => Nat.le_refl _
  | i, t :: ts => by
    have h1 := uses_len x t
    have h2 := usesL_len x h n (i + 1) ts
    show ((if x ∈ under h n i then [] else _) ++ Tr.usesL x h n (i + 1) ts).length ≤ t.size + Tr.sizes ts
    rw [List.length_append]
    split
    · simp only [List.length_nil]; omega
    · rw [List.length_map]; omega
end
theorem rawL_len (x : Str) (h : Hd) (n : Nat) : ∀ (i : Nat) (ts : List Tr), (rawL x h n i ts).length ≤ Tr.sizes ts
  | _, [] => Nat.le_refl _
  | i, t :: ts => by
    have h1 := uses_len x t
    have h2 := rawL_len x h n (i + 1) ts
    show ((if x ∈ under h n i then [] else _) ++ rawL x h n (i + 1) ts).length ≤ t.size + Tr.sizes ts
    rw [List.length_append]
    split
    · simp only [List.length_nil]; omega
    · rw [List.length_map]; omega
def useD (p : List Int × Str) : PyData := .tuple [pathI p.1, .str p.2]
theorem flat_useD (p : List Int × Str) : flatD (useD p) = true := by
  have := flatDs_ints p.1
  simp [useD, pathI, flatD, flatDs, this]
theorem flat_usesD (l : List (List Int × Str)) : flatDs (l.map useD) = true := flatDs_of _ fun d hd => by
  obtain ⟨p, _, rfl⟩ := List.mem_map.mp hd
  exact flat_useD p
mutual
theorem use_ok (x : Str) : ∀ t : Tr, ∀ p ∈ t.uses x, p.1.length ≤ t.size ∧ sok p.2
  | .mk h ps, p, m => by
    have m' : p ∈ baseU x h ++ Tr.usesL x h ps.length 0 ps := m
    rcases List.mem_append.mp m' with m' | m'
    · cases h with
      | name y =>
        have m2 : p ∈ (if y = x then [([], "read")] else [] : List (List Int × Str)) := m'
        split at m2
        · rw [List.mem_singleton.mp m2]; exact ⟨Nat.zero_le _, by decide +kernel⟩
        · cases m2
      | one w y =>
        have m2 : p ∈ (if w = "set" ∧ y = x then [([], "set")] else [] : List (List Int × Str)) := m'
        split at m2
        · rw [List.mem_singleton.mp m2]; exact ⟨Nat.zero_le _, by decide +kernel⟩
        · cases m2
      | _ => cases m'
    · have := useL_ok x h ps.length 0 ps p m'
      exact ⟨by show p.1.length ≤ Tr.sizes ps + 1; omega, this.2⟩
theorem useL_ok (x : Str) (h : Hd) (n : Nat) : ∀ (i : Nat) (ts : List Tr), ∀ p ∈ Tr.usesL x h n i ts, p.1.length ≤ Tr.sizes ts + 1 ∧ sok p.2
  | _, [], _, m => by cases m
  | i, t :: ts, p, m => by
    have m' : p ∈ (if x ∈ under h n i then [] else (t.uses x).map fun p => (((i : Nat) : Int) :: p.1, hw (cal h n i t) p.2)) ++ Tr.usesL x h n (i + 1) ts := m
    rcases List.mem_append.mp m' with m' | m'
    · split at m'
      · cases m'
      · obtain ⟨q, hq, rfl⟩ := List.mem_map.mp m'
        have := use_ok x t q hq
        refine ⟨?_, ?_⟩
        · show q.1.length + 1 ≤ t.size + Tr.sizes ts + 1
          omega
        · show sok (if cal h n i t = true then "called" else q.2 : Str)
          split
          · decide +kernel
          · exact this.2
    · have := useL_ok x h n (i + 1) ts p m'
      exact ⟨by show p.1.length ≤ t.size + Tr.sizes ts + 1; omega, this.2⟩
end
/-- the first use of a call of a name -/
theorem raw_call {x : Str} {y : Str} {b : Tr} (e : y = x) : ∃ r : List (List Int × Str), rawL x .call 2 0 [.mk (.name y) [], b] = ([0], ("read" : Str)) :: r ∧ Tr.usesL x .call 2 0 [.mk (.name y) [], b] = ([0], ("called" : Str)) :: r := by
  refine ⟨(b.uses x).map fun p => (((1 : Nat) : Int) :: p.1, p.2), ?_, ?_⟩
  · show (if x ∈ under .call 2 0 then [] else ((Tr.mk (.name y) []).uses x).map _) ++ ((if x ∈ under .call 2 1 then [] else _) ++ []) = _
    have e1 : (Tr.mk (.name y) []).uses x = [([], ("read" : Str))] := by
      show (if y = x then [([], "read")] else [] : List (List Int × Str)) ++ [] = _
      rw [if_pos e]; rfl
    rw [if_neg (by intro z; cases z), if_neg (by intro z; cases z), e1, List.append_nil]
    rfl
  · show (if x ∈ under .call 2 0 then [] else ((Tr.mk (.name y) []).uses x).map _) ++ ((if x ∈ under .call 2 1 then [] else _) ++ []) = _
    have e1 : (Tr.mk (.name y) []).uses x = [([], ("read" : Str))] := by
      show (if y = x then [([], "read")] else [] : List (List Int × Str)) ++ [] = _
      rw [if_pos e]; rfl
    rw [if_neg (by intro z; cases z), if_neg (by intro z; cases z), e1, List.append_nil]
    rfl
theorem enc_hd (h : Hd) (ds : List PyData) : ∃ r, encH h ds = .tuple (.str (wd h) :: r) ∧ (∀ y, h = .name y → r = [.str y]) := by
  cases h with
  | name y => exact ⟨_, rfl, fun z e => by cases e; rfl⟩
  | _ => exact ⟨_, rfl, fun z e => by cases e⟩
theorem eq_nameT {h : Hd} {n : Nat} (o : hok h n) (ds : List PyData) (x : Str) : PyData.eqv (encH h ds) (.tuple [.str "name", .str x]) = isNm x h := by
  obtain ⟨r, e, er⟩ := enc_hd h ds
  rw [e]
  have e2 := eq_name o
  rw [decS] at e2
  by_cases q : isName h = true
  · cases h with
    | name y =>
      rw [er y rfl]
      show PyData.eqvAll [.str "name", .str y] [.str "name", .str x] = decide (y = x)
      simp [PyData.eqvAll, PyData.eqv]
      by_cases z : y = x <;> simp [z]
    | _ => cases q
  · have q' : isName h = false := by cases z : isName h with | true => exact absurd z q | false => rfl
    rw [q'] at e2
    have q2 : ¬ wd h = "name" := of_decide_eq_false e2
    have q3 : isNm x h = false := by
      cases h with
      | name y => exact absurd rfl q
      | _ => rfl
    rw [q3]
    show PyData.eqvAll (.str (wd h) :: r) [.str "name", .str x] = false
    simp [PyData.eqvAll, PyData.eqv, q2]
/-- a name that is no longer free is not used -/
theorem cal_no {x : Str} {t : Tr} (o : t.ok) (n : isName t.hd = true) (e : isNm x t.hd = false) : t.uses x = [] := by
  cases t with
  | mk h ps =>
    have o' : hok h ps.length ∧ ps.length ≤ 11 ∧ Tr.oks ps := o
    cases h with
    | name y =>
      have e0 : ps = [] := List.length_eq_zero_iff.mp o'.1.1
      subst e0
      have e' : ¬ y = x := of_decide_eq_false e
      show (if y = x then [([], "read")] else [] : List (List Int × Str)) ++ [] = []
      rw [if_neg e']; rfl
    | _ => cases n

/-! ### small facts on parts -/
theorem okP {h : Hd} {ps : List Tr} (o : (Tr.mk h ps).ok) : hok h ps.length ∧ ps.length ≤ 11 ∧ ∀ t ∈ ps, t.ok := by
  have o' : hok h ps.length ∧ ps.length ≤ 11 ∧ Tr.oks ps := o
  exact ⟨o'.1, o'.2.1, fun t m => oks_iff.mp o'.2.2 t m⟩
theorem encLat {ps : List Tr} {i : Nat} {d : PyData} (h : (Tr.encL ps)[i]? = some d) : ∃ c, ps[i]? = some c ∧ d = c.enc := by
  rw [encL_map] at h
  obtain ⟨c, e1, e2⟩ := map_at h
  exact ⟨c, e1, e2⟩
theorem takeNext {α : Type} {xs : List α} {i : Nat} {c : α} (h : xs[i]? = some c) : xs.take (i + 1) = xs.take i ++ [c] ∧ (xs.take i).length = i := by
  refine ⟨by rw [List.take_add_one, h]; rfl, ?_⟩
  have := (List.getElem?_eq_some_iff.mp h).1
  rw [List.length_take]
  omega
theorem encsInv {K : PySem.W.Frag} {H : Hp} {v : V} {xs : List Str} (h : Dp K H v (encs xs)) : ∃ q, v = .ref q ∧ SqT K H q (xs.map V.str) := by
  obtain ⟨q, vs, rfl, hq, hv⟩ := dp_tup h
  rw [dpAll_strs_inv hv] at hq
  exact ⟨q, rfl, hq⟩
theorem sizeMem {t : Tr} : ∀ {ps : List Tr}, t ∈ ps → t.size ≤ Tr.sizes ps
  | a :: ps, h => by
    show t.size ≤ a.size + Tr.sizes ps
    rcases List.mem_cons.mp h with rfl | h
    · omega
    · have := sizeMem h
      omega
theorem sizesTake : ∀ (ps : List Tr) (i : Nat), Tr.sizes (ps.take i) ≤ Tr.sizes ps
  | [], i => by rw [List.take_nil]; exact Nat.le_refl _
  | a :: ps, 0 => Nat.zero_le _
  | a :: ps, i + 1 => by
    have := sizesTake ps i
    show a.size + Tr.sizes (ps.take i) ≤ a.size + Tr.sizes ps
    omega
theorem useD_inv {K : PySem.W.Frag} {H : Hp} {v : V} {p : List Int × Str} (h : Dp K H v (useD p)) : ∃ a b, v = .ref a ∧ SqT K H a [.ref b, .str p.2] ∧ SqT K H b (p.1.map V.int) := by
  obtain ⟨a, its, rfl, hs, hi⟩ := dp_tup h
  cases hi with
  | cons h1 h2 =>
    cases h2 with
    | cons h3 h4 =>
      cases h4
      obtain ⟨b, rfl, hb⟩ := pathI_inv h1
      rw [dp_str h3] at hs
      exact ⟨a, b, rfl, hs, hb⟩
theorem dp_useD {K : PySem.W.Frag} {H : Hp} {a b : Addr} {p : List Int × Str} (h : SqT K H a [.ref b, .str p.2]) (hb : SqT K H b (p.1.map V.int)) : Dp K H (.ref a) (useD p) :=
  .tup h (.cons (dp_pathI hb) (.cons (.str _) .nil))
theorem name_only {x : Str} {h : Hd} {ps : List Tr} (o : hok h ps.length) (e : isNm x h = true) : h = .name x ∧ ps = [] := by
  cases h with
  | name y =>
    rw [of_decide_eq_true (show decide (y = x) = true from e)]
    exact ⟨rfl, List.length_eq_zero_iff.mp o.1⟩
  | _ => cases e
end Cm

set_option linter.all false
/-! trees whose set names are held in pairs: sound, narrow, not too deep -/
namespace Cm
open PySem L2 PySem.Spec PyProof.Rows
def nwH : Hd → Prop
  | .fn xs => xs.length ≤ 10
  | _ => True
mutual
def Tr.nw : Tr → Prop
  | .mk h ps => nwH h ∧ Tr.nws ps
def Tr.nws : List Tr → Prop
  | [] => True
  | t :: ts => t.nw ∧ Tr.nws ts
end
theorem nws_iff : ∀ {ps : List Tr}, Tr.nws ps ↔ ∀ t ∈ ps, t.nw
  | [] => by simp [Tr.nws]
  | t :: ts => by
    show t.nw ∧ Tr.nws ts ↔ _
    rw [nws_iff]
    simp
theorem held_len {h : Hd} {n : Nat} (o : hok h n) (l : n ≤ 11) (nw : nwH h) : (held h).length ≤ 10 := by
  cases h with
  | fn xs => exact nw
  | one w x =>
    show (if w = "set" then [] else [x] : List Str).length ≤ 10
    split <;> simp
  | bind w xs =>
    have := o.1
    show xs.length ≤ 10
    omega
  | _ => exact Nat.zero_le _
theorem anew_sub {h : Hd} {ps : List Tr} {x : Str} (m : x ∈ anewOf h ps) : x ∈ held h := (List.mem_filter.mp m).1
theorem anew_len {h : Hd} {ps : List Tr} (o : hok h ps.length) (l : ps.length ≤ 11) (w : nwH h) : (anewOf h ps).length ≤ 10 := Nat.le_trans (List.length_filter_le _ _) (held_len o l w)
theorem okmk {h : Hd} {ps : List Tr} (a : hok h ps.length) (b : ps.length ≤ 11) (c : ∀ t ∈ ps, t.ok ∧ t.nw) (d : nwH h) : (Tr.mk h ps).ok ∧ (Tr.mk h ps).nw := ⟨⟨a, b, oks_iff.mpr fun t m => (c t m).1⟩, d, nws_iff.mpr fun t m => (c t m).2⟩
theorem ok_nameT {x : Str} (h : sok x) : (nameT x).ok ∧ (nameT x).nw := okmk ⟨rfl, h⟩ (Nat.zero_le _) (fun t m => by cases m) trivial
theorem ok_noneT : noneT.ok ∧ noneT.nw := okmk ⟨rfl, by decide +kernel⟩ (Nat.zero_le _) (fun t m => by cases m) trivial
theorem ok_pairT {t : Tr} (h : t.ok ∧ t.nw) : (pairT t).ok ∧ (pairT t).nw := okmk (show sok "pair" by decide +kernel) (by show 2 ≤ 11; decide) (fun u m => by
  rcases List.mem_cons.mp m with rfl | m
  · exact h
  · rw [List.mem_singleton.mp m]; exact ok_noneT) trivial
theorem ok_fillT {x : Str} {t : Tr} (hx : sok x) (h : t.ok ∧ t.nw) : (fillT x t).ok ∧ (fillT x t).nw := okmk (show sok "left!" by decide +kernel) (by show 2 ≤ 11; decide) (fun u m => by
  rcases List.mem_cons.mp m with rfl | m
  · exact ok_nameT hx
  · rw [List.mem_singleton.mp m]; exact h) trivial
theorem last_len {α : Type} {qs : List α} {n : Nat} (h : qs.length = n + 1) : (qs.drop (qs.length - 1)).length = 1 := by rw [List.length_drop]; omega
theorem ok_wrap {anew : List Str} {h : Hd} {qs : List Tr} (o : hok h qs.length) (l : qs.length ≤ 11) (c : ∀ t ∈ qs, t.ok ∧ t.nw) (w : nwH h) (an : ∀ x ∈ anew, sok x) (al : anew.length ≤ 10) (ne : anew ≠ [] → qs.length ≠ 0) : (wrapL anew h qs).ok ∧ (wrapL anew h qs).nw := by
  unfold wrapL
  split
  · exact okmk o l c w
  · rename_i e
    have := ne e
    have e1 : (qs.take (qs.length - 1)).length = qs.length - 1 := by rw [List.length_take]; omega
    have e2 : (qs.drop (qs.length - 1)).length = 1 := by rw [List.length_drop]; omega
    have e3 : (qs.take (qs.length - 1) ++ [Tr.mk (.bind "let" anew) ((anew.map fun x => pairT (nameT x)) ++ qs.drop (qs.length - 1))]).length = qs.length := by
      rw [List.length_append, e1]
      show qs.length - 1 + 1 = _
      omega
    refine okmk (by rw [e3]; exact o) (by rw [e3]; exact l) (fun t m => ?_) w
    rcases List.mem_append.mp m with m | m
    · exact c t (List.mem_of_mem_take m)
    · rw [List.mem_singleton.mp m]
      have e4 : ((anew.map fun x => pairT (nameT x)) ++ qs.drop (qs.length - 1)).length = anew.length + 1 := by rw [List.length_append, List.length_map, e2]
      refine okmk ⟨e4, by decide +kernel, an⟩ (by rw [e4]; omega) (fun u mu => ?_) trivial
      rcases List.mem_append.mp mu with mu | mu
      · obtain ⟨x, mx, rfl⟩ := List.mem_map.mp mu
        exact ok_pairT (ok_nameT (an x mx))
      · exact c u (List.mem_of_mem_drop mu)
theorem filt_len {α : Type} (p : α → Bool) (l : List α) : (l.filter p).length + (l.filter fun x => !p x).length = l.length := by
  induction l with
  | nil => rfl
  | cons a l ih =>
    by_cases z : p a = true
    · rw [List.filter_cons_of_pos z, List.filter_cons_of_neg (by simp [z]), List.length_cons, List.length_cons]
      omega
    · rw [List.filter_cons_of_neg z, List.filter_cons_of_pos (by simpa using z), List.length_cons, List.length_cons]
      omega
theorem ok_recP {xs anew : List Str} {qs : List Tr} (hl : qs.length = xs.length + 1) (l : qs.length ≤ 11) (c : ∀ t ∈ qs, t.ok ∧ t.nw) (sx : ∀ x ∈ xs, sok x) (an : ∀ x ∈ anew, sok x) (al : anew.length ≤ 10) : (recP xs anew qs).ok ∧ (recP xs anew qs).nw := by
  have zp : ∀ r ∈ xs.zip qs, sok r.1 ∧ r.2.ok ∧ r.2.nw := fun r m => by
    have m' := List.of_mem_zip (show (r.1, r.2) ∈ xs.zip qs from m)
    exact ⟨sx _ m'.1, c _ m'.2⟩
  have zl : (xs.zip qs).length = xs.length := by rw [List.length_zip]; omega
  have fl := filt_len (fun r : Str × Tr => decide (r.1 ∈ anew)) (xs.zip qs)
  have dl : (qs.drop xs.length).length = 1 := by rw [List.length_drop]; omega
  have inn : (Tr.mk .doo ((((xs.zip qs).filter fun r => decide (r.1 ∈ anew)).map fun r => fillT r.1 r.2) ++ qs.drop xs.length)).ok ∧ (Tr.mk .doo ((((xs.zip qs).filter fun r => decide (r.1 ∈ anew)).map fun r => fillT r.1 r.2) ++ qs.drop xs.length)).nw := by
    refine okmk trivial ?_ (fun t m => ?_) trivial
    · rw [List.length_append, List.length_map, dl]
      omega
    · rcases List.mem_append.mp m with m | m
      · obtain ⟨r, mr, rfl⟩ := List.mem_map.mp m
        have z := zp r (List.mem_filter.mp mr).1
        exact ok_fillT z.1 z.2
      · exact c t (List.mem_of_mem_drop m)
  unfold recP
  refine okmk ⟨?_, by decide +kernel, an⟩ ?_ (fun t m => ?_) trivial
  · rw [List.length_append, List.length_map]
    rfl
  · rw [List.length_append, List.length_map]
    show anew.length + 1 ≤ 11
    omega
  · rcases List.mem_append.mp m with m | m
    · obtain ⟨x, _, rfl⟩ := List.mem_map.mp m
      exact ok_pairT ok_noneT
    · rw [List.mem_singleton.mp m]
      split
      · exact inn
      · have el : (((xs.zip qs).filter fun r => !decide (r.1 ∈ anew)).map (·.2) ++ [Tr.mk .doo ((((xs.zip qs).filter fun r => decide (r.1 ∈ anew)).map fun r => fillT r.1 r.2) ++ qs.drop xs.length)]).length = (((xs.zip qs).filter fun r => !decide (r.1 ∈ anew)).map (·.1)).length + 1 := by
          rw [List.length_append, List.length_map, List.length_map]
          rfl
        refine okmk ⟨el, by decide +kernel, fun x mx => ?_⟩ ?_ (fun u mu => ?_) trivial
        · obtain ⟨r, mr, rfl⟩ := List.mem_map.mp mx
          exact (zp r (List.mem_filter.mp mr).1).1
        · rw [el, List.length_map]
          omega
        · rcases List.mem_append.mp mu with mu | mu
          · obtain ⟨r, mr, rfl⟩ := List.mem_map.mp mu
            exact (zp r (List.mem_filter.mp mr).1).2
          · rw [List.mem_singleton.mp mu]
            exact inn
theorem ok_shape {hs : Str → Bool} {anew : List Str} {qs : List Tr} {h : Hd} (o : hok h qs.length) (l : qs.length ≤ 11) (c : ∀ t ∈ qs, t.ok ∧ t.nw) (nw : nwH h) (an : ∀ x ∈ anew, x ∈ held h) (al : anew.length ≤ 10) : (shapeP hs anew qs h).ok ∧ (shapeP hs anew qs h).nw := by
  have sa : ∀ x ∈ anew, sok x := fun x m => held_sok o x (an x m)
  have n0 : ∀ x ∈ anew, qs.length ≠ 0 := fun x m => by
    have m' := an x m
    cases h with
    | fn xs => have := o.1; omega
    | one w y => have := o.1; omega
    | bind w xs => have := o.1; omega
    | _ => cases m'
  have wr : (wrapL anew h qs).ok ∧ (wrapL anew h qs).nw := ok_wrap o l c nw sa al fun ne => by
    cases anew with
    | nil => exact absurd rfl ne
    | cons x r => exact n0 x List.mem_cons_self
  cases h with
  | name x =>
    show (if hs x = true then Tr.mk (.op "left") [nameT x] else .mk (.name x) qs).ok ∧ (if hs x = true then Tr.mk (.op "left") [nameT x] else .mk (.name x) qs).nw
    split
    · exact okmk (show sok "left" by decide +kernel) (by show 1 ≤ 11; decide) (fun t m => by rw [List.mem_singleton.mp m]; exact ok_nameT o.2) trivial
    · exact okmk o l c nw
  | one w x =>
    show (if w = "set" then Tr.mk (.op "left!") (nameT x :: qs) else wrapL anew (.one w x) qs).ok ∧ (if w = "set" then Tr.mk (.op "left!") (nameT x :: qs) else wrapL anew (.one w x) qs).nw
    split
    · have := o.1
      refine okmk (show sok "left!" by decide +kernel) (by rw [List.length_cons]; omega) (fun t m => ?_) trivial
      rcases List.mem_cons.mp m with rfl | m
      · exact ok_nameT o.2.2
      · exact c t m
    · exact wr
  | bind w xs =>
    show (if w = "rec" ∧ anew ≠ [] then recP xs anew qs else wrapL anew (.bind w xs) qs).ok ∧ (if w = "rec" ∧ anew ≠ [] then recP xs anew qs else wrapL anew (.bind w xs) qs).nw
    split
    · exact ok_recP o.1 l c o.2.2 sa al
    · exact wr
  | num i => exact wr
  | lit i => exact wr
  | fn i => exact wr
  | doo => exact wr
  | call => exact wr
  | op i => exact wr
  | plain i => exact wr
mutual
theorem ok_plain (hs : Str → Bool) : ∀ t : Tr, t.ok → t.nw → (t.plain hs).ok ∧ (t.plain hs).nw
  | .mk h ps, o, n => by
    have o' : hok h ps.length ∧ ps.length ≤ 11 ∧ Tr.oks ps := o
    have n' : nwH h ∧ Tr.nws ps := n
    have pl := plains_len (scopeP hs h ps.length (anewOf h ps)) 0 ps
    have c := ok_plains (scopeP hs h ps.length (anewOf h ps)) 0 ps o'.2.2 n'.2
    exact ok_shape (by rw [pl]; exact o'.1) (by rw [pl]; exact o'.2.1) (fun t m => ⟨oks_iff.mp c.1 t m, nws_iff.mp c.2 t m⟩) n'.1 (fun x m => anew_sub m) (anew_len o'.1 o'.2.1 n'.1)
theorem ok_plains (sc : Nat → Str → Bool) : ∀ (i : Nat) (ps : List Tr), Tr.oks ps → Tr.nws ps → Tr.oks (Tr.plains sc i ps) ∧ Tr.nws (Tr.plains sc i ps)
  | _, [], _, _ => ⟨trivial, trivial⟩
  | i, t :: ts, o, n => by
    have o' : t.ok ∧ Tr.oks ts := o
    have n' : t.nw ∧ Tr.nws ts := n
    have a := ok_plain (sc i) t o'.1 n'.1
    have b := ok_plains sc (i + 1) ts o'.2 n'.2
    exact ⟨⟨a.1, b.1⟩, ⟨a.2, b.2⟩⟩
end
/-! ### how deep the data is, without and with pairs -/
def lw : Hd → Nat → Nat
  | .bind w xs, i => if i < xs.length then (if w = "rec" then 6 else 3) else (if w = "rec" then 4 else 2)
  | .doo, _ => 2
  | .call, _ => 2
  | .op _, _ => 2
  | .fn _, _ => 2
  | .one _ _, _ => 2
  | _, _ => 1
def lo : Hd → Nat
  | .name _ => 3
  | .fn _ => 7
  | .one _ _ => 7
  | .bind _ _ => 8
  | .doo => 2
  | .call => 2
  | .op _ => 2
  | _ => 1
mutual
def Tr.ld : Tr → Nat
  | .mk h ps => max (lo h) (Tr.lds h 0 ps)
def Tr.lds : Hd → Nat → List Tr → Nat
  | _, _, [] => 0
  | h, i, t :: ts => max (lw h i + t.ld) (Tr.lds h (i + 1) ts)
end
theorem lds_le {h : Hd} {n : Nat} : ∀ {ps : List Tr} {i : Nat}, Tr.lds h i ps ≤ n ↔ ∀ j t, ps[j]? = some t → lw h (i + j) + t.ld ≤ n
  | [], i => by simp [Tr.lds]
  | t :: ts, i => by
    have ih := lds_le (h := h) (n := n) (ps := ts) (i := i + 1)
    show max (lw h i + t.ld) (Tr.lds h (i + 1) ts) ≤ n ↔ _
    rw [Nat.max_le, ih]
    constructor
    · rintro ⟨h1, h2⟩ j u e
      cases j with
      | zero => cases e; exact h1
      | succ j => have := h2 j u e; rwa [show i + 1 + j = i + (j + 1) by omega] at this
    · exact fun z => ⟨z 0 t rfl, fun j u e => by have := z (j + 1) u e; rwa [show i + (j + 1) = i + 1 + j by omega] at this⟩
theorem ld_le {h : Hd} {ps : List Tr} {n : Nat} : (Tr.mk h ps).ld ≤ n ↔ lo h ≤ n ∧ ∀ j t, ps[j]? = some t → lw h j + t.ld ≤ n := by
  show max (lo h) (Tr.lds h 0 ps) ≤ n ↔ _
  rw [Nat.max_le, lds_le]
  simp
theorem lay1 {n : Nat} {a : PyData} (h : Lay n a) : Lay (n + 1) (.tuple [a]) := .tup fun d m => by rw [List.mem_singleton.mp m]; exact h
theorem lay2 {n : Nat} {a b : PyData} (h : Lay n a) (k : Lay n b) : Lay (n + 1) (.tuple [a, b]) := .tup fun d m => by
  rcases List.mem_cons.mp m with rfl | m
  · exact h
  · rw [List.mem_singleton.mp m]; exact k
theorem lay3 {n : Nat} {a b c : PyData} (h : Lay n a) (k : Lay n b) (j : Lay n c) : Lay (n + 1) (.tuple [a, b, c]) := .tup fun d m => by
  rcases List.mem_cons.mp m with rfl | m
  · exact h
  rcases List.mem_cons.mp m with rfl | m
  · exact k
  · rw [List.mem_singleton.mp m]; exact j
theorem lay_nameT {x : Str} (h : sok x) : Lay 1 (nameT x).enc := lay2 (.str (by decide +kernel) 0) (.str h 0)
theorem lay_noneT : Lay 1 noneT.enc := lay1 (.str (by decide +kernel) 0)
theorem lay_op {o : Str} {ds : List PyData} {n : Nat} (ho : sok o) (h : ∀ d ∈ ds, Lay n d) : Lay (n + 2) (.tuple [.str "op", .str o, .tuple ds]) := lay3 (.str (by decide +kernel) _) (.str ho _) (.tup h)
theorem lay_pairT {n : Nat} {t : Tr} (h : Lay (n + 1) t.enc) : Lay (n + 3) (pairT t).enc := lay_op (by decide +kernel) fun d m => by
  rcases List.mem_cons.mp m with rfl | m
  · exact h
  · rw [List.mem_singleton.mp m]; exact lay_noneT.mono (by omega)
theorem lay_fillT {n : Nat} {x : Str} {t : Tr} (hx : sok x) (h : Lay (n + 1) t.enc) : Lay (n + 3) (fillT x t).enc := lay_op (by decide +kernel) fun d m => by
  rcases List.mem_cons.mp m with rfl | m
  · exact (lay_nameT hx).mono (by omega)
  · rw [List.mem_singleton.mp m]; exact h
end Cm

set_option linter.all false
namespace Cm
open PySem L2 PySem.Spec PyProof.Rows
def ew : Hd → Nat → Nat
  | .bind _ xs, i => if i < xs.length then 3 else 1
  | .doo, _ => 2
  | .call, _ => 2
  | .op _, _ => 2
  | _, _ => 1
def eo : Hd → Nat
  | .num _ => 1
  | .name _ => 1
  | .lit _ => 1
  | .plain _ => 1
  | _ => 2
theorem lay_cons {n : Nat} {a : PyData} {ds : List PyData} (h : Lay n a) (k : ∀ d ∈ ds, Lay n d) : Lay (n + 1) (.tuple (a :: ds)) := .tup fun d m => by
  rcases List.mem_cons.mp m with rfl | m
  · exact h
  · exact k d m
theorem lay_encP {h : Hd} {ds : List PyData} {n : Nat} (o : hok h ds.length) (hd : ∀ j d, ds[j]? = some d → ∃ m, Lay m d ∧ ew h j + m ≤ n) (he : eo h ≤ n) : Lay n (encH h ds) := by
  have all : ∀ k, (∀ j, ew h j = k) → ∀ d ∈ ds, ∃ m, Lay m d ∧ k + m ≤ n := fun k hk d m => by
    obtain ⟨j, e⟩ := List.getElem?_of_mem m
    obtain ⟨q, a, b⟩ := hd j d e
    exact ⟨q, a, by rw [hk j] at b; exact b⟩
  obtain ⟨n, rfl⟩ : ∃ k, n = k + 1 := ⟨n - 1, by
    have : 1 ≤ eo h := by cases h <;> simp [eo]
    omega⟩
  have one : (∀ j, ew h j = 1) → ∀ d ∈ ds, Lay n d := fun hk d m => by
    obtain ⟨q, a, b⟩ := all 1 hk d m
    exact a.mono (by omega)
  cases h with
  | num i => exact lay2 (.str (by decide +kernel) n) (.int i n)
  | name x => exact lay2 (.str (by decide +kernel) n) (.str o.2 n)
  | lit w =>
    refine lay1 (.str ?_ n)
    exact words_sok w (by simp [o.2])
  | one w x =>
    refine lay_cons (.str (words_sok w (by simp [o.2.1])) n) fun d m => ?_
    rcases List.mem_cons.mp m with rfl | m
    · exact .str o.2.2 n
    · exact one (fun _ => rfl) d m
  | plain w => exact lay_cons (.str (words_sok w (by simp [show w ∈ plainW from o])) n) (one fun _ => rfl)
  | fn xs =>
    have : 2 ≤ n + 1 := he
    refine lay_cons (.str (by decide +kernel) n) fun d m => ?_
    rcases List.mem_cons.mp m with rfl | m
    · exact (Lay.tup (n := 0) fun d m => by obtain ⟨x, mx, rfl⟩ := List.mem_map.mp m; exact .str (o.2.2 x mx) 0).mono (by omega)
    · exact one (fun _ => rfl) d m
  | doo =>
    have : 2 ≤ n + 1 := he
    obtain ⟨n, rfl⟩ : ∃ k, n = k + 1 := ⟨n - 1, by omega⟩
    exact lay2 (.str (by decide +kernel) _) (.tup fun d m => by
      obtain ⟨q, a, b⟩ := all 2 (fun _ => rfl) d m
      exact a.mono (by omega))
  | op p =>
    have : 2 ≤ n + 1 := he
    obtain ⟨n, rfl⟩ : ∃ k, n = k + 1 := ⟨n - 1, by omega⟩
    exact lay3 (.str (by decide +kernel) _) (.str o _) (.tup fun d m => by
      obtain ⟨q, a, b⟩ := all 2 (fun _ => rfl) d m
      exact a.mono (by omega))
  | call =>
    have : 2 ≤ n + 1 := he
    obtain ⟨n, rfl⟩ : ∃ k, n = k + 1 := ⟨n - 1, by omega⟩
    refine lay_cons (.str (by decide +kernel) _) fun d m => ?_
    have al := all 2 (fun _ => rfl)
    rcases List.mem_append.mp m with m | m
    · obtain ⟨q, a, b⟩ := al d (List.mem_of_mem_take m)
      exact a.mono (by omega)
    · rw [List.mem_singleton.mp m]
      exact .tup fun d m => by
        obtain ⟨q, a, b⟩ := al d (List.mem_of_mem_drop m)
        exact a.mono (by omega)
  | bind w xs =>
    have : 2 ≤ n + 1 := he
    refine lay_cons (.str (words_sok w (by simp [o.2.1])) n) fun d m => ?_
    have hl := o.1
    rcases List.mem_cons.mp m with rfl | m
    · by_cases z : xs = []
      · subst z
        exact (Lay.tup (n := 0) fun d m => by cases m).mono (by omega)
      · have h3 : ∃ k, n = k + 2 := by
          cases xs with
          | nil => exact absurd rfl z
          | cons x xs =>
            obtain ⟨d0, e0⟩ : ∃ d, ds[0]? = some d := ⟨ds[0]'(by rw [hl]; simp), List.getElem?_eq_getElem _⟩
            obtain ⟨q, a, b⟩ := hd 0 d0 e0
            have : ew (.bind w (x :: xs)) 0 = 3 := by
              show (if 0 < (x :: xs).length then 3 else 1) = 3
              simp
            exact ⟨n - 2, by omega⟩
        obtain ⟨k, rfl⟩ := h3
        refine .tup fun d m => ?_
        obtain ⟨r, mr, rfl⟩ := List.mem_map.mp m
        have mz := List.of_mem_zip (show (r.1, r.2) ∈ xs.zip ds from mr)
        refine lay2 (.str (o.2.2 r.1 mz.1) _) ?_
        obtain ⟨j, ej⟩ := List.getElem?_of_mem mr
        obtain ⟨e1, e2⟩ := List.getElem?_zip_eq_some.mp ej
        obtain ⟨q, a, b⟩ := hd j r.2 e2
        have hj : j < xs.length := (List.getElem?_eq_some_iff.mp e1).1
        have : ew (.bind w xs) j = 3 := if_pos hj
        exact a.mono (by omega)
    · obtain ⟨j, ej⟩ := List.getElem?_of_mem m
      rw [List.getElem?_drop] at ej
      obtain ⟨q, a, b⟩ := hd _ d ej
      have : ew (.bind w xs) (xs.length + j) = 1 := if_neg (by omega)
      exact a.mono (by omega)
theorem ew_lw (h : Hd) (i : Nat) : ew h i ≤ lw h i := by
  cases h with
  | bind w xs =>
    show (if i < xs.length then 3 else 1) ≤ if i < xs.length then (if w = "rec" then 6 else 3) else (if w = "rec" then 4 else 2)
    split <;> split <;> decide
  | _ => exact Nat.le_of_ble_eq_true rfl
theorem eo_lo (h : Hd) : eo h ≤ lo h := by cases h <;> exact Nat.le_of_ble_eq_true rfl
theorem lay_ps {h : Hd} {ps : List Tr} {n : Nat} (o : hok h ps.length) (hd : ∀ j t, ps[j]? = some t → ∃ m, Lay m t.enc ∧ ew h j + m ≤ n) (he : eo h ≤ n) : Lay n (Tr.mk h ps).enc :=
  lay_encP (by rw [encL_len]; exact o) (fun j d e => by
    rw [encL_map, List.getElem?_map] at e
    obtain ⟨t, e1, rfl⟩ := Option.map_eq_some_iff.mp e
    exact hd j t e1) he
theorem lay_ld (t : Tr) : t.ok → Lay t.ld t.enc := by
  refine tr_ind (P := fun t => t.ok → Lay t.ld t.enc) (fun h ps ih => ?_) t
  intro o
  have o' : hok h ps.length ∧ ps.length ≤ 11 ∧ Tr.oks ps := o
  have e := ld_le.mp (Nat.le_refl (Tr.mk h ps).ld)
  refine lay_ps o'.1 (fun j t ej => ?_) (Nat.le_trans (eo_lo h) e.1)
  have m := List.mem_of_getElem? ej
  exact ⟨t.ld, ih t m (oks_iff.mp o'.2.2 t m), by have := e.2 j t ej; have := ew_lw h j; omega⟩
theorem lay_let {anew : List Str} {ts : List Tr} {n : Nat} (an : ∀ x ∈ anew, sok x) (f : Str → Tr) (hf : ∀ x ∈ anew, Lay 1 (f x).enc) (h1 : ts.length = 1) (hl : ∀ t ∈ ts, Lay n t.enc) : Lay (max 6 (n + 1)) (Tr.mk (.bind "let" anew) ((anew.map fun x => pairT (f x)) ++ ts)).enc := by
  refine lay_ps ⟨by rw [List.length_append, List.length_map, h1], by decide +kernel, an⟩ (fun j t ej => ?_) (by show 2 ≤ _; omega)
  by_cases hj : j < anew.length
  · rw [List.getElem?_append_left (by rw [List.length_map]; exact hj), List.getElem?_map] at ej
    obtain ⟨x, ex, rfl⟩ := Option.map_eq_some_iff.mp ej
    refine ⟨3, lay_pairT (n := 0) (hf x (List.mem_of_getElem? ex)), ?_⟩
    rw [show ew (.bind "let" anew) j = 3 from if_pos hj]
    omega
  · rw [List.getElem?_append_right (by rw [List.length_map]; omega)] at ej
    refine ⟨n, hl t (List.mem_of_getElem? ej), ?_⟩
    rw [show ew (.bind "let" anew) j = 1 from if_neg hj]
    omega
theorem lay_wrap {anew : List Str} {h : Hd} {qs : List Tr} {n : Nat} (o : hok h qs.length) (an : ∀ x ∈ anew, sok x) (ne : anew ≠ [] → qs.length ≠ 0 ∧ 7 ≤ n ∧ ew h (qs.length - 1) = 1 ∧ 2 ≤ lw h (qs.length - 1)) (hd : ∀ j t, qs[j]? = some t → ∃ m, Lay m t.enc ∧ lw h j + m ≤ n) (he : eo h ≤ n) : Lay n (wrapL anew h qs).enc := by
  unfold wrapL
  split
  · exact lay_ps o (fun j t e => by obtain ⟨m, a, b⟩ := hd j t e; exact ⟨m, a, by have := ew_lw h j; omega⟩) he
  · rename_i e
    obtain ⟨n0, n7, n1, n2⟩ := ne e
    have e1 : (qs.take (qs.length - 1)).length = qs.length - 1 := by rw [List.length_take]; omega
    have e2 : (qs.drop (qs.length - 1)).length = 1 := by rw [List.length_drop]; omega
    have e3 : ∀ z : Tr, (qs.take (qs.length - 1) ++ [z]).length = qs.length := fun z => by
      rw [List.length_append, e1]
      show qs.length - 1 + 1 = _
      omega
    refine lay_ps (by rw [e3]; exact o) (fun j t ej => ?_) he
    by_cases hj : j < qs.length - 1
    · rw [List.getElem?_append_left (by rw [e1]; exact hj), List.getElem?_take_of_lt hj] at ej
      obtain ⟨m, a, b⟩ := hd j t ej
      exact ⟨m, a, by have := ew_lw h j; omega⟩
    · rw [List.getElem?_append_right (by rw [e1]; omega), e1] at ej
      have hj2 : j = qs.length - 1 := by
        have := (List.getElem?_eq_some_iff.mp ej).1
        simp at this
        omega
      subst hj2
      rw [Nat.sub_self] at ej
      cases ej
      obtain ⟨q, eq⟩ : ∃ q, qs[qs.length - 1]? = some q := ⟨qs[qs.length - 1]'(by omega), List.getElem?_eq_getElem _⟩
      obtain ⟨m, a, b⟩ := hd _ q eq
      refine ⟨_, lay_let (n := m) an nameT (fun x mx => lay_nameT (an x mx)) e2 fun t mt => ?_, ?_⟩
      · obtain ⟨i, ei⟩ := List.getElem?_of_mem mt
        rw [List.getElem?_drop] at ei
        have : i = 0 := by
          have := (List.getElem?_eq_some_iff.mp ei).1
          omega
        subst this
        rw [Nat.add_zero, eq] at ei
        cases ei
        exact a
      · rw [n1]
        omega
theorem lay_recP {xs anew : List Str} {qs : List Tr} {n : Nat} (hl : qs.length = xs.length + 1) (sx : ∀ x ∈ xs, sok x) (an : ∀ x ∈ anew, sok x) (n8 : 8 ≤ n) (hd : ∀ j t, qs[j]? = some t → ∃ m, Lay m t.enc ∧ lw (.bind "rec" xs) j + m ≤ n) : Lay n (recP xs anew qs).enc := by
  have zp : ∀ r ∈ xs.zip qs, sok r.1 ∧ Lay (n - 6) r.2.enc := fun r mr => by
    have mz := List.of_mem_zip (show (r.1, r.2) ∈ xs.zip qs from mr)
    obtain ⟨j, ej⟩ := List.getElem?_of_mem mr
    obtain ⟨e1, e2⟩ := List.getElem?_zip_eq_some.mp ej
    obtain ⟨m, a, b⟩ := hd j r.2 e2
    have hj : j < xs.length := (List.getElem?_eq_some_iff.mp e1).1
    rw [show lw (.bind "rec" xs) j = 6 from (if_pos hj).trans (if_pos rfl)] at b
    exact ⟨sx _ mz.1, a.mono (by omega)⟩
  have lst : ∀ t ∈ qs.drop xs.length, Lay (n - 4) t.enc := fun t mt => by
    obtain ⟨i, ei⟩ := List.getElem?_of_mem mt
    rw [List.getElem?_drop] at ei
    obtain ⟨m, a, b⟩ := hd _ t ei
    rw [show lw (.bind "rec" xs) (xs.length + i) = 4 from (if_neg (by omega)).trans (if_pos rfl)] at b
    exact a.mono (by omega)
  have dl : (qs.drop xs.length).length = 1 := by rw [List.length_drop]; omega
  have inn : Lay (n - 2) (Tr.mk .doo ((((xs.zip qs).filter fun r => decide (r.1 ∈ anew)).map fun r => fillT r.1 r.2) ++ qs.drop xs.length)).enc := by
    refine lay_ps trivial (fun j t ej => ?_) (by show 2 ≤ _; omega)
    rcases List.mem_append.mp (List.mem_of_getElem? ej) with m | m
    · obtain ⟨r, mr, rfl⟩ := List.mem_map.mp m
      have z := zp r (List.mem_filter.mp mr).1
      exact ⟨n - 7 + 3, lay_fillT z.1 (z.2.mono (by omega)), by show 2 + _ ≤ _; omega⟩
    · exact ⟨n - 4, lst t m, by show 2 + _ ≤ _; omega⟩
  unfold recP
  refine (lay_let (n := n - 1) an (fun _ => noneT) (fun _ _ => lay_noneT) rfl fun t mt => ?_).mono (by omega)
  rw [List.mem_singleton.mp mt]
  split
  · exact inn.mono (by omega)
  · have el : (((xs.zip qs).filter fun r => !decide (r.1 ∈ anew)).map (·.2) ++ [Tr.mk .doo ((((xs.zip qs).filter fun r => decide (r.1 ∈ anew)).map fun r => fillT r.1 r.2) ++ qs.drop xs.length)]).length = (((xs.zip qs).filter fun r => !decide (r.1 ∈ anew)).map (·.1)).length + 1 := by
      rw [List.length_append, List.length_map, List.length_map]
      rfl
    refine lay_ps ⟨el, by decide +kernel, fun x mx => ?_⟩ (fun j t ej => ?_) (by show 2 ≤ _; omega)
    · obtain ⟨r, mr, rfl⟩ := List.mem_map.mp mx
      exact (zp r (List.mem_filter.mp mr).1).1
    · by_cases hj : j < (((xs.zip qs).filter fun r => !decide (r.1 ∈ anew)).map (·.1)).length
      · rw [List.getElem?_append_left (by rw [List.length_map] at hj ⊢; exact hj), List.getElem?_map] at ej
        obtain ⟨r, er, rfl⟩ := Option.map_eq_some_iff.mp ej
        refine ⟨n - 6, (zp r (List.mem_filter.mp (List.mem_of_getElem? er)).1).2, ?_⟩
        rw [show ew (.bind "rec" (((xs.zip qs).filter fun r => !decide (r.1 ∈ anew)).map (·.1))) j = 3 from if_pos hj]
        omega
      · rw [List.getElem?_append_right (by rw [List.length_map] at hj ⊢; omega)] at ej
        rw [List.mem_singleton.mp (List.mem_of_getElem? ej)]
        refine ⟨n - 2, inn, ?_⟩
        rw [show ew (.bind "rec" (((xs.zip qs).filter fun r => !decide (r.1 ∈ anew)).map (·.1))) j = 1 from if_neg hj]
        omega
end Cm

set_option linter.all false
namespace Cm
open PySem L2 PySem.Spec PyProof.Rows
theorem lay_shape {hs : Str → Bool} {anew : List Str} {qs : List Tr} {h : Hd} {n : Nat} (o : hok h qs.length) (an : ∀ x ∈ anew, x ∈ held h) (hd : ∀ j t, qs[j]? = some t → ∃ m, Lay m t.enc ∧ lw h j + m ≤ n) (he : lo h ≤ n) : Lay n (shapeP hs anew qs h).enc := by
  have sa : ∀ x ∈ anew, sok x := fun x m => held_sok o x (an x m)
  have eh := Nat.le_trans (eo_lo h) he
  have no : held h = [] → anew = [] := fun e => by
    cases anew with
    | nil => rfl
    | cons x r => have := an x List.mem_cons_self; rw [e] at this; cases this
  have wr0 : held h = [] → Lay n (wrapL anew h qs).enc := fun e => lay_wrap o sa (fun ne => absurd (no e) ne) hd eh
  cases h with
  | name x =>
    show Lay n (if hs x = true then Tr.mk (.op "left") [nameT x] else .mk (.name x) qs).enc
    have h3 : 3 ≤ n := he
    split
    · exact (lay_op (n := 1) (by decide +kernel) fun d m => by rw [List.mem_singleton.mp m]; exact lay_nameT o.2).mono h3
    · exact lay_ps o (fun j t e => by obtain ⟨m, a, b⟩ := hd j t e; exact ⟨m, a, b⟩) eh
  | one w x =>
    show Lay n (if w = "set" then Tr.mk (.op "left!") (nameT x :: qs) else wrapL anew (.one w x) qs).enc
    have h7 : 7 ≤ n := he
    split
    · obtain ⟨n, rfl⟩ : ∃ k, n = k + 2 := ⟨n - 2, by omega⟩
      refine lay_op (by decide +kernel) fun d m => ?_
      rcases List.mem_cons.mp m with rfl | m
      · exact (lay_nameT o.2.2).mono (by omega)
      · have m' : d ∈ qs.map Tr.enc := by rw [← encL_map]; exact m
        obtain ⟨t, mt, rfl⟩ := List.mem_map.mp m'
        obtain ⟨j, ej⟩ := List.getElem?_of_mem mt
        obtain ⟨q, a, b⟩ := hd j t ej
        have : lw (.one w x) j = 2 := rfl
        exact a.mono (by omega)
    · exact lay_wrap o sa (fun _ => ⟨by have := o.1; omega, h7, rfl, Nat.le_refl _⟩) hd eh
  | bind w xs =>
    show Lay n (if w = "rec" ∧ anew ≠ [] then recP xs anew qs else wrapL anew (.bind w xs) qs).enc
    have h8 : 8 ≤ n := he
    have hl : qs.length = xs.length + 1 := o.1
    split
    · rename_i e
      rw [e.1] at hd
      exact lay_recP hl o.2.2 sa h8 hd
    · refine lay_wrap o sa (fun _ => ⟨by omega, by omega, ?_, ?_⟩) hd eh
      · exact if_neg (by omega)
      · show 2 ≤ if qs.length - 1 < xs.length then (if w = "rec" then 6 else 3) else (if w = "rec" then 4 else 2)
        split <;> split <;> decide
  | fn xs =>
    have h7 : 7 ≤ n := he
    exact lay_wrap o sa (fun _ => ⟨by have := o.1; omega, h7, rfl, Nat.le_refl _⟩) hd eh
  | num i => exact wr0 rfl
  | lit i => exact wr0 rfl
  | doo => exact wr0 rfl
  | call => exact wr0 rfl
  | op i => exact wr0 rfl
  | plain i => exact wr0 rfl
theorem lay_plain (t : Tr) : t.ok → ∀ hs, Lay t.ld (t.plain hs).enc := by
  refine tr_ind (P := fun t => t.ok → ∀ hs, Lay t.ld (t.plain hs).enc) (fun h ps ih => ?_) t
  intro o hs
  have o' : hok h ps.length ∧ ps.length ≤ 11 ∧ Tr.oks ps := o
  have e := ld_le.mp (Nat.le_refl (Tr.mk h ps).ld)
  have pl := plains_len (scopeP hs h ps.length (anewOf h ps)) 0 ps
  refine lay_shape (by rw [pl]; exact o'.1) (fun x m => anew_sub m) (fun j q ej => ?_) e.1
  rw [plains_at] at ej
  obtain ⟨t, e1, rfl⟩ := Option.map_eq_some_iff.mp ej
  have m := List.mem_of_getElem? e1
  exact ⟨t.ld, ih t m (oks_iff.mp o'.2.2 t m) _, e.2 j t e1⟩
/-! the levels of a tree are no more than its data's -/
theorem depth_mem {d : PyData} : ∀ {ds : List PyData}, d ∈ ds → d.depth ≤ PyData.depthAll ds
  | [], m => by cases m
  | a :: ds, m => by
    simp only [PyData.depthAll]
    rcases List.mem_cons.mp m with rfl | m
    · omega
    · have := depth_mem m
      omega
theorem depth_tup {d : PyData} {ds : List PyData} (m : d ∈ ds) : d.depth + 1 ≤ (PyData.tuple ds).depth := by
  have := depth_mem m
  simp only [PyData.depth]
  omega
theorem depth_part {h : Hd} {ds : List PyData} {d : PyData} (o : hok h ds.length) (m : d ∈ ds) : d.depth + 1 ≤ (encH h ds).depth := by
  cases h with
  | num i => rw [List.length_eq_zero_iff.mp (show ds.length = 0 from o)] at m; cases m
  | name x => rw [List.length_eq_zero_iff.mp (show ds.length = 0 from o.1)] at m; cases m
  | lit x => rw [List.length_eq_zero_iff.mp (show ds.length = 0 from o.1)] at m; cases m
  | one w x => exact depth_tup (List.mem_cons_of_mem _ (List.mem_cons_of_mem _ m))
  | fn xs => exact depth_tup (List.mem_cons_of_mem _ (List.mem_cons_of_mem _ m))
  | plain w => exact depth_tup (List.mem_cons_of_mem _ m)
  | doo =>
    have a := depth_tup m
    have b := depth_tup (d := .tuple ds) (ds := [.str "do", .tuple ds]) (by simp)
    show _ ≤ (PyData.tuple [.str "do", .tuple ds]).depth
    omega
  | op p =>
    have a := depth_tup m
    have b := depth_tup (d := .tuple ds) (ds := [.str "op", .str p, .tuple ds]) (by simp)
    show _ ≤ (PyData.tuple [.str "op", .str p, .tuple ds]).depth
    omega
  | call =>
    show _ ≤ (PyData.tuple (.str "call" :: (ds.take 1 ++ [.tuple (ds.drop 1)]))).depth
    rw [← List.take_append_drop 1 ds] at m
    rcases List.mem_append.mp m with m | m
    · exact depth_tup (List.mem_cons_of_mem _ (List.mem_append_left _ m))
    · have a := depth_tup m
      have b := depth_tup (d := .tuple (ds.drop 1)) (ds := .str "call" :: (ds.take 1 ++ [.tuple (ds.drop 1)])) (by simp)
      omega
  | bind w xs =>
    have hl : ds.length = xs.length + 1 := o.1
    show _ ≤ (PyData.tuple (.str w :: .tuple ((xs.zip ds).map rowD) :: ds.drop xs.length)).depth
    obtain ⟨j, ej⟩ := List.getElem?_of_mem m
    have hj := (List.getElem?_eq_some_iff.mp ej).1
    by_cases z : j < xs.length
    · have mz : rowD (xs[j], d) ∈ (xs.zip ds).map rowD := by
        refine List.mem_map.mpr ⟨(xs[j], d), List.mem_of_getElem? (i := j) ?_, rfl⟩
        exact List.getElem?_zip_eq_some.mpr ⟨List.getElem?_eq_getElem z, ej⟩
      have a := depth_tup mz
      have b := depth_tup (d := d) (ds := [.str xs[j], d]) (by simp)
      have c := depth_tup (d := .tuple ((xs.zip ds).map rowD)) (ds := .str w :: .tuple ((xs.zip ds).map rowD) :: ds.drop xs.length) (by simp)
      have e : (rowD (xs[j], d)).depth = (PyData.tuple [.str xs[j], d]).depth := rfl
      omega
    · refine depth_tup (List.mem_cons_of_mem _ (List.mem_cons_of_mem _ ?_))
      have : (ds.drop xs.length)[j - xs.length]? = some d := by rw [List.getElem?_drop, show xs.length + (j - xs.length) = j by omega]; exact ej
      exact List.mem_of_getElem? this
theorem dep_depth (t : Tr) : t.ok → t.dep ≤ t.enc.depth := by
  refine tr_ind (P := fun t => t.ok → t.dep ≤ t.enc.depth) (fun h ps ih => ?_) t
  intro o
  have o' : hok h ps.length ∧ ps.length ≤ 11 ∧ Tr.oks ps := o
  obtain ⟨k, hk⟩ : ∃ k, (Tr.mk h ps).enc.depth = k + 1 := ⟨(Tr.mk h ps).enc.depth - 1, by
    have : 1 ≤ (encH h (Tr.encL ps)).depth := by cases h <;> simp [encH, PyData.depth]
    have e0 : (Tr.mk h ps).enc.depth = (encH h (Tr.encL ps)).depth := rfl
    omega⟩
  rw [hk]
  refine dep_mk.mpr fun t m => ?_
  have a := ih t m (oks_iff.mp o'.2.2 t m)
  have b := depth_part (h := h) (ds := Tr.encL ps) (d := t.enc) (by rw [encL_len]; exact o'.1) (by rw [encL_map]; exact List.mem_map.mpr ⟨t, m, rfl⟩)
  have c : (encH h (Tr.encL ps)).depth = k + 1 := hk
  omega
theorem dep_ld {t : Tr} (o : t.ok) : t.dep ≤ t.ld := Nat.le_trans (dep_depth t o) (lay_ld t o).dep
theorem dep_plain {t : Tr} (o : t.ok) (n : t.nw) (hs : Str → Bool) : (t.plain hs).dep ≤ t.ld := Nat.le_trans (dep_depth _ (ok_plain hs t o n).1) (lay_plain t o hs).dep
/-! how many forms -/
theorem sizes_app : ∀ a b : List Tr, Tr.sizes (a ++ b) = Tr.sizes a + Tr.sizes b
  | [], b => by simp [Tr.sizes]
  | t :: a, b => by
    show t.size + Tr.sizes (a ++ b) = t.size + Tr.sizes a + Tr.sizes b
    rw [sizes_app a b]
    omega
theorem sizes_cut (n : Nat) (qs : List Tr) : Tr.sizes (qs.take n) + Tr.sizes (qs.drop n) = Tr.sizes qs := by rw [← sizes_app, List.take_append_drop]
theorem sizes_pairs {f : Str → Tr} (hf : ∀ x, (f x).size = 1) : ∀ xs : List Str, Tr.sizes (xs.map fun x => pairT (f x)) = 3 * xs.length
  | [] => rfl
  | x :: xs => by
    show (pairT (f x)).size + Tr.sizes (xs.map fun x => pairT (f x)) = 3 * (xs.length + 1)
    rw [sizes_pairs hf xs]
    have : (pairT (f x)).size = ((f x).size + (0 + 1 + 0)) + 1 := rfl
    rw [this, hf]
    omega
theorem sizes_rows (p : Str × Tr → Bool) : ∀ l : List (Str × Tr), Tr.sizes ((l.filter p).map fun r => fillT r.1 r.2) + Tr.sizes ((l.filter fun r => !p r).map (·.2)) ≤ Tr.sizes (l.map (·.2)) + 2 * l.length
  | [] => Nat.le_refl _
  | r :: l => by
    have ih := sizes_rows p l
    by_cases z : p r = true
    · rw [List.filter_cons_of_pos z, List.filter_cons_of_neg (by simp [z])]
      show (fillT r.1 r.2).size + Tr.sizes ((l.filter p).map fun r => fillT r.1 r.2) + _ ≤ r.2.size + Tr.sizes (l.map (·.2)) + 2 * (l.length + 1)
      have : (fillT r.1 r.2).size = ((0 + 1) + (r.2.size + 0)) + 1 := rfl
      omega
    · rw [List.filter_cons_of_neg z, List.filter_cons_of_pos (by simpa using z)]
      show _ + (r.2.size + Tr.sizes ((l.filter fun r => !p r).map (·.2))) ≤ r.2.size + Tr.sizes (l.map (·.2)) + 2 * (l.length + 1)
      omega
theorem sizes_zip : ∀ (xs : List Str) (qs : List Tr), xs.length ≤ qs.length → Tr.sizes ((xs.zip qs).map (·.2)) = Tr.sizes (qs.take xs.length)
  | [], qs, _ => by simp [Tr.sizes]
  | x :: xs, [], h => by simp at h
  | x :: xs, q :: qs, h => by
    show q.size + Tr.sizes ((xs.zip qs).map (·.2)) = q.size + Tr.sizes (qs.take xs.length)
    rw [sizes_zip xs qs (by simpa using h)]
theorem size_shape {hs : Str → Bool} {anew : List Str} {qs : List Tr} {h : Hd} (o : hok h qs.length) (l : qs.length ≤ 11) (al : anew.length ≤ 10) : (shapeP hs anew qs h).size ≤ 60 + Tr.sizes qs := by
  have wr : (wrapL anew h qs).size ≤ 60 + Tr.sizes qs := by
    unfold wrapL
    split
    · show Tr.sizes qs + 1 ≤ _; omega
    · show Tr.sizes (_ ++ [Tr.mk _ _]) + 1 ≤ _
      rw [sizes_app]
      show Tr.sizes _ + ((Tr.sizes ((anew.map fun x => pairT (nameT x)) ++ qs.drop (qs.length - 1)) + 1) + 0) + 1 ≤ _
      rw [sizes_app, sizes_pairs (f := nameT) (fun _ => rfl)]
      have := sizes_cut (qs.length - 1) qs
      omega
  cases h with
  | name x =>
    show (if hs x = true then Tr.mk (.op "left") [nameT x] else .mk (.name x) qs).size ≤ _
    split
    · show (0 + 1) + 0 + 1 ≤ _; omega
    · show Tr.sizes qs + 1 ≤ _; omega
  | one w x =>
    show (if w = "set" then Tr.mk (.op "left!") (nameT x :: qs) else wrapL anew (.one w x) qs).size ≤ _
    split
    · show (0 + 1) + Tr.sizes qs + 1 ≤ _; omega
    · exact wr
  | bind w xs =>
    show (if w = "rec" ∧ anew ≠ [] then recP xs anew qs else wrapL anew (.bind w xs) qs).size ≤ _
    have hl : qs.length = xs.length + 1 := o.1
    split
    · unfold recP
      show Tr.sizes ((anew.map fun _ => pairT noneT) ++ [_]) + 1 ≤ _
      rw [sizes_app, sizes_pairs (f := fun _ => noneT) (fun _ => rfl)]
      have a := sizes_rows (fun r : Str × Tr => decide (r.1 ∈ anew)) (xs.zip qs)
      rw [sizes_zip xs qs (by omega), List.length_zip] at a
      have b := sizes_cut xs.length qs
      have inn : (Tr.mk .doo ((((xs.zip qs).filter fun r => decide (r.1 ∈ anew)).map fun r => fillT r.1 r.2) ++ qs.drop xs.length)).size = Tr.sizes (((xs.zip qs).filter fun r => decide (r.1 ∈ anew)).map fun r => fillT r.1 r.2) + Tr.sizes (qs.drop xs.length) + 1 := by
        show Tr.sizes _ + 1 = _
        rw [sizes_app]
      split
      · show _ + ((Tr.mk .doo ((((xs.zip qs).filter fun r => decide (r.1 ∈ anew)).map fun r => fillT r.1 r.2) ++ qs.drop xs.length)).size + 0) + 1 ≤ _
        rw [inn]
        omega
      · show _ + (Tr.sizes (_ ++ [Tr.mk .doo _]) + 1 + 0) + 1 ≤ _
        rw [sizes_app]
        show _ + (Tr.sizes _ + ((Tr.mk .doo ((((xs.zip qs).filter fun r => decide (r.1 ∈ anew)).map fun r => fillT r.1 r.2) ++ qs.drop xs.length)).size + 0) + 1 + 0) + 1 ≤ _
        rw [inn]
        omega
    · exact wr
  | num i => exact wr
  | lit i => exact wr
  | fn i => exact wr
  | doo => exact wr
  | call => exact wr
  | op i => exact wr
  | plain i => exact wr
mutual
theorem size_plain (hs : Str → Bool) : ∀ t : Tr, t.ok → t.nw → (t.plain hs).size ≤ 60 * t.size
  | .mk h ps, o, n => by
    have o' : hok h ps.length ∧ ps.length ≤ 11 ∧ Tr.oks ps := o
    have n' : nwH h ∧ Tr.nws ps := n
    have pl := plains_len (scopeP hs h ps.length (anewOf h ps)) 0 ps
    have a := sizes_plain (scopeP hs h ps.length (anewOf h ps)) 0 ps o'.2.2 n'.2
    have b := size_shape (hs := hs) (anew := anewOf h ps) (qs := Tr.plains (scopeP hs h ps.length (anewOf h ps)) 0 ps) (h := h) (by rw [pl]; exact o'.1) (by rw [pl]; exact o'.2.1) (anew_len o'.1 o'.2.1 n'.1)
    show (shapeP hs (anewOf h ps) _ h).size ≤ 60 * (Tr.sizes ps + 1)
    omega
theorem sizes_plain (sc : Nat → Str → Bool) : ∀ (i : Nat) (ps : List Tr), Tr.oks ps → Tr.nws ps → Tr.sizes (Tr.plains sc i ps) ≤ 60 * Tr.sizes ps
  | _, [], _, _ => Nat.le_refl _
  | i, t :: ts, o, n => by
    have o' : t.ok ∧ Tr.oks ts := o
    have n' : t.nw ∧ Tr.nws ts := n
    have a := size_plain (sc i) t o'.1 n'.1
    have b := sizes_plain sc (i + 1) ts o'.2 n'.2
    show (t.plain (sc i)).size + Tr.sizes (Tr.plains sc (i + 1) ts) ≤ 60 * (t.size + Tr.sizes ts)
    omega
end
end Cm

set_option linter.all false
/-! trees with good names; where the word "(set " can stand in a text -/
namespace Cm
open PySem L2 PySem.Spec PyProof.Rows
def patS : List Nat := [40, 115, 101, 116, 32]
def stp (q c : Nat) : Nat := if patS[q]? = some c then q + 1 else if c = 40 then 1 else 0
def scan : Nat → List Nat → Option Nat
  | q, [] => some q
  | q, c :: r => if stp q c = 5 then none else scan (stp q c) r
theorem scan_app : ∀ (a b : List Nat) (q : Nat), scan q (a ++ b) = (scan q a).bind fun p => scan p b
  | [], b, q => rfl
  | c :: a, b, q => by
    show (if stp q c = 5 then none else scan (stp q c) (a ++ b)) = (if stp q c = 5 then none else scan (stp q c) a).bind fun p => scan p b
    split
    · rfl
    · exact scan_app a b _
theorem stp_le {q c : Nat} (h : q ≤ 4) : stp q c ≤ 5 := by
  unfold stp
  split
  · omega
  · split <;> omega
theorem scan_le : ∀ (a : List Nat) {q p : Nat}, q ≤ 4 → scan q a = some p → p ≤ 4
  | [], q, p, h, e => by cases e; exact h
  | c :: a, q, p, h, e => by
    have e' : (if stp q c = 5 then none else scan (stp q c) a) = some p := e
    split at e'
    · cases e'
    · exact scan_le a (by have := stp_le (c := c) h; omega) e'
theorem scan_pat {q : Nat} (h : q ≤ 4) : ∀ b, scan q (patS ++ b) = none := fun b => by
  have key : ∀ q < 5, scan q patS = none := by decide +kernel
  rw [scan_app, key q (by omega)]
  rfl
theorem scan_none {l a b : List Nat} (e : l = a ++ (patS ++ b)) : scan 0 l = none := by
  rw [e, scan_app]
  cases z : scan 0 a with
  | none => rfl
  | some p => exact scan_pat (scan_le a (by decide) z) b
/-- a good name -/
def gw (x : Str) : Prop := sok x ∧ x.length ≤ 2 ∧ scan 0 x.cps.toList = some 0 ∧ scan 1 x.cps.toList = some 0
instance (x : Str) : Decidable (gw x) := by unfold gw; infer_instance
/-- a good operation -/
def go (x : Str) : Prop := sok x ∧ x.length ≤ 6 ∧ scan 0 x.cps.toList = some 0 ∧ scan 1 x.cps.toList = some 0
instance (x : Str) : Decidable (go x) := by unfold go; infer_instance
def gH : Hd → Prop
  | .num i => i.natAbs ≤ 1000000000
  | .name x => gw x
  | .op x => go x
  | .one _ x => gw x
  | .fn xs => ∀ x ∈ xs, gw x
  | .bind _ xs => ∀ x ∈ xs, gw x
  | _ => True
mutual
def Tr.gd : Tr → Prop
  | .mk h ps => gH h ∧ Tr.gds ps
def Tr.gds : List Tr → Prop
  | [] => True
  | t :: ts => t.gd ∧ Tr.gds ts
end
theorem gds_iff : ∀ {ps : List Tr}, Tr.gds ps ↔ ∀ t ∈ ps, t.gd
  | [] => by simp [Tr.gds]
  | t :: ts => by
    show t.gd ∧ Tr.gds ts ↔ _
    rw [gds_iff]
    simp
theorem gd_mk {h : Hd} {ps : List Tr} (a : gH h) (b : ∀ t ∈ ps, t.gd) : (Tr.mk h ps).gd := ⟨a, gds_iff.mpr b⟩
theorem gdNm {x : Str} (h : gw x) : (nameT x).gd := gd_mk h fun t m => by cases m
theorem gdNone : noneT.gd := gd_mk trivial fun t m => by cases m
theorem gdPair {t : Tr} (h : t.gd) : (pairT t).gd := gd_mk (show go "pair" by decide +kernel) fun u m => by
  rcases List.mem_cons.mp m with rfl | m
  · exact h
  · rw [List.mem_singleton.mp m]; exact gdNone
theorem gdFill {x : Str} {t : Tr} (hx : gw x) (h : t.gd) : (fillT x t).gd := gd_mk (show go "left!" by decide +kernel) fun u m => by
  rcases List.mem_cons.mp m with rfl | m
  · exact gdNm hx
  · rw [List.mem_singleton.mp m]; exact h
theorem gdWrap {anew : List Str} {h : Hd} {qs : List Tr} (a : gH h) (an : ∀ x ∈ anew, gw x) (b : ∀ t ∈ qs, t.gd) : (wrapL anew h qs).gd := by
  unfold wrapL
  split
  · exact gd_mk a b
  · refine gd_mk a fun t m => ?_
    rcases List.mem_append.mp m with m | m
    · exact b t (List.mem_of_mem_take m)
    · rw [List.mem_singleton.mp m]
      refine gd_mk an fun u mu => ?_
      rcases List.mem_append.mp mu with mu | mu
      · obtain ⟨x, mx, rfl⟩ := List.mem_map.mp mu
        exact gdPair (gdNm (an x mx))
      · exact b u (List.mem_of_mem_drop mu)
theorem gdRec {xs anew : List Str} {qs : List Tr} (hx : ∀ x ∈ xs, gw x) (an : ∀ x ∈ anew, gw x) (b : ∀ t ∈ qs, t.gd) : (recP xs anew qs).gd := by
  have zp : ∀ r ∈ xs.zip qs, gw r.1 ∧ r.2.gd := fun r m => by
    have z := List.of_mem_zip (show (r.1, r.2) ∈ xs.zip qs from m)
    exact ⟨hx _ z.1, b _ z.2⟩
  have inn : (Tr.mk .doo ((((xs.zip qs).filter fun r => decide (r.1 ∈ anew)).map fun r => fillT r.1 r.2) ++ qs.drop xs.length)).gd := gd_mk trivial fun t m => by
    rcases List.mem_append.mp m with m | m
    · obtain ⟨r, mr, rfl⟩ := List.mem_map.mp m
      have z := zp r (List.mem_filter.mp mr).1
      exact gdFill z.1 z.2
    · exact b t (List.mem_of_mem_drop m)
  unfold recP
  refine gd_mk an fun t m => ?_
  rcases List.mem_append.mp m with m | m
  · obtain ⟨x, _, rfl⟩ := List.mem_map.mp m
    exact gdPair gdNone
  · rw [List.mem_singleton.mp m]
    split
    · exact inn
    · refine gd_mk (fun x mx => ?_) fun u mu => ?_
      · obtain ⟨r, mr, rfl⟩ := List.mem_map.mp mx
        exact (zp r (List.mem_filter.mp mr).1).1
      · rcases List.mem_append.mp mu with mu | mu
        · obtain ⟨r, mr, rfl⟩ := List.mem_map.mp mu
          exact (zp r (List.mem_filter.mp mr).1).2
        · rw [List.mem_singleton.mp mu]
          exact inn
theorem held_gw {h : Hd} (g : gH h) : ∀ x ∈ held h, gw x := fun x m => by
  cases h with
  | fn xs => exact g x m
  | bind w xs => exact g x m
  | one w y =>
    have m' : x ∈ (if w = "set" then [] else [y] : List Str) := m
    split at m'
    · cases m'
    · rw [List.mem_singleton.mp m']; exact g
  | _ => cases m
theorem gdShape {hs : Str → Bool} {anew : List Str} {qs : List Tr} {h : Hd} (g : gH h) (an : ∀ x ∈ anew, x ∈ held h) (b : ∀ t ∈ qs, t.gd) : (shapeP hs anew qs h).gd := by
  have an' : ∀ x ∈ anew, gw x := fun x m => held_gw g x (an x m)
  have wr := gdWrap g an' b
  cases h with
  | name x =>
    show (if hs x = true then Tr.mk (.op "left") [nameT x] else .mk (.name x) qs).gd
    split
    · exact gd_mk (show go "left" by decide +kernel) fun t m => by rw [List.mem_singleton.mp m]; exact gdNm g
    · exact gd_mk g b
  | one w x =>
    show (if w = "set" then Tr.mk (.op "left!") (nameT x :: qs) else wrapL anew (.one w x) qs).gd
    split
    · refine gd_mk (show go "left!" by decide +kernel) fun t m => ?_
      rcases List.mem_cons.mp m with rfl | m
      · exact gdNm g
      · exact b t m
    · exact wr
  | bind w xs =>
    show (if w = "rec" ∧ anew ≠ [] then recP xs anew qs else wrapL anew (.bind w xs) qs).gd
    split
    · exact gdRec g an' b
    · exact wr
  | num i => exact wr
  | lit i => exact wr
  | fn i => exact wr
  | doo => exact wr
  | call => exact wr
  | op i => exact wr
  | plain i => exact wr
mutual
theorem gdTplain (hs : Str → Bool) : ∀ t : Tr, t.gd → (t.plain hs).gd
  | .mk h ps, g => by
    have g' : gH h ∧ Tr.gds ps := g
    exact gdShape g'.1 (fun x m => anew_sub m) (fun t m => gds_iff.mp (gdsTplain _ 0 ps g'.2) t m)
theorem gdsTplain (sc : Nat → Str → Bool) : ∀ (i : Nat) (ps : List Tr), Tr.gds ps → Tr.gds (Tr.plains sc i ps)
  | _, [], _ => trivial
  | i, t :: ts, g => by
    have g' : t.gd ∧ Tr.gds ts := g
    exact ⟨gdTplain (sc i) t g'.1, gdsTplain sc (i + 1) ts g'.2⟩
end
/-! ### good drawn trees -/
structure Gk (d n : Nat) (t : Tr) : Prop where
  ok : t.ok
  nw : t.nw
  gd : t.gd
  ld : t.ld ≤ 8 + d
  sz : t.size ≤ n
structure Gks (d n : Nat) (ts : List Tr) : Prop where
  al : ∀ t ∈ ts, t.ok ∧ t.nw ∧ t.gd ∧ t.ld ≤ 8 + d
  sz : Tr.sizes ts ≤ n
theorem Gk.mono {d n d' n' : Nat} {t : Tr} (h : Gk d n t) (a : d ≤ d') (b : n ≤ n') : Gk d' n' t := ⟨h.ok, h.nw, h.gd, by have := h.ld; omega, Nat.le_trans h.sz b⟩
theorem Gks.nil {d : Nat} : Gks d 0 [] := ⟨fun t m => (by cases m), Nat.zero_le _⟩
theorem Gk.cons {d d1 n m : Nat} {t : Tr} {ts : List Tr} (h : Gk d1 n t) (r : Gks d m ts) (e : d1 ≤ d := by omega) : Gks d (n + m) (t :: ts) :=
  ⟨fun u mu => by
    rcases List.mem_cons.mp mu with rfl | mu
    · exact ⟨h.ok, h.nw, h.gd, by have := h.ld; omega⟩
    · exact r.al u mu, by
    have h1 := h.sz
    have h2 := r.sz
    show t.size + Tr.sizes ts ≤ n + m
    omega⟩
def wk : Hd → Nat
  | .bind w _ => if w = "rec" then 6 else 3
  | .doo => 2
  | .call => 2
  | .op _ => 2
  | .fn _ => 2
  | .one _ _ => 2
  | _ => 1
theorem lw_wk (h : Hd) (j : Nat) : lw h j ≤ wk h := by
  cases h with
  | bind w xs =>
    show (if j < xs.length then (if w = "rec" then 6 else 3) else (if w = "rec" then 4 else 2)) ≤ (if w = "rec" then 6 else 3)
    split <;> split <;> omega
  | _ => exact Nat.le_refl _
theorem lo_8 (h : Hd) : lo h ≤ 8 := by cases h <;> exact Nat.le_of_ble_eq_true rfl
theorem Gk.of {h : Hd} {ps : List Tr} {d n : Nat} (g : Gks d n ps) (o : hok h ps.length) (gh : gH h) (nw : nwH h) (l : ps.length ≤ 11 := by exact Nat.le_of_ble_eq_true rfl) : Gk (wk h + d) (n + 1) (.mk h ps) :=
  ⟨⟨o, l, oks_iff.mpr fun t m => (g.al t m).1⟩, ⟨nw, nws_iff.mpr fun t m => (g.al t m).2.1⟩, gd_mk gh fun t m => (g.al t m).2.2.1, ld_le.mpr ⟨by have := lo_8 h; omega, fun j t e => by
    have := (g.al t (List.mem_of_getElem? e)).2.2.2
    have := lw_wk h j
    omega⟩, Nat.succ_le_succ g.sz⟩
theorem gk_leaf {h : Hd} (o : hok h 0) (gh : gH h) (nw : nwH h) (l : lo h ≤ 8 := by exact Nat.le_of_ble_eq_true rfl) : Gk 0 1 (.mk h []) :=
  ⟨⟨o, Nat.zero_le _, trivial⟩, ⟨nw, trivial⟩, ⟨gh, trivial⟩, ld_le.mpr ⟨by omega, fun j t e => (by cases e)⟩, Nat.le_refl _⟩
theorem gk_num {i : Int} (h : i.natAbs ≤ 1000000000) : Gk 0 1 (.mk (.num i) []) := gk_leaf (h := .num i) rfl h trivial
theorem gk_name {x : Str} (h : gw x) : Gk 0 1 (.mk (.name x) []) := gk_leaf (h := .name x) ⟨rfl, h.1⟩ h trivial
theorem gk_lit {w : Str} (h : w ∈ litW) : Gk 0 1 (.mk (.lit w) []) := gk_leaf (h := .lit w) ⟨rfl, h⟩ trivial trivial
theorem gk_op {o : Str} {d n : Nat} {ps : List Tr} (so : go o) (g : Gks d n ps) (l : ps.length ≤ 11 := by exact Nat.le_of_ble_eq_true rfl) : Gk (2 + d) (n + 1) (.mk (.op o) ps) := Gk.of (h := .op o) g so.1 so trivial l
theorem gk_do {d n : Nat} {ps : List Tr} (g : Gks d n ps) (l : ps.length ≤ 11 := by exact Nat.le_of_ble_eq_true rfl) : Gk (2 + d) (n + 1) (.mk .doo ps) := Gk.of (h := .doo) g True.intro trivial trivial l
theorem gk_call {d n : Nat} {t : Tr} {ps : List Tr} (g : Gks d n (t :: ps)) (l : (t :: ps).length ≤ 11 := by exact Nat.le_of_ble_eq_true rfl) : Gk (2 + d) (n + 1) (.mk .call (t :: ps)) := Gk.of (h := .call) g (Nat.succ_le_succ (Nat.zero_le _)) trivial trivial l
theorem gk_fn {d n : Nat} {xs : List Str} {b : Tr} (hx : ∀ x ∈ xs, gw x) (g : Gk d n b) (l : xs.length ≤ 10 := by exact Nat.le_of_ble_eq_true rfl) : Gk (2 + d) (n + 1) (.mk (.fn xs) [b]) := Gk.of (h := .fn xs) (g.cons Gks.nil (Nat.le_refl _)) ⟨rfl, by omega, fun x m => (hx x m).1⟩ hx l
theorem gk_one {d n : Nat} {w x : Str} {b : Tr} (hw : w ∈ oneW) (hx : gw x) (g : Gk d n b) : Gk (2 + d) (n + 1) (.mk (.one w x) [b]) := Gk.of (h := .one w x) (g.cons Gks.nil (Nat.le_refl _)) ⟨rfl, hw, hx.1⟩ hx trivial
theorem gk_bind {d n : Nat} {w : Str} {xs : List Str} {ps : List Tr} (hw : w ∈ bindW) (hx : ∀ x ∈ xs, gw x) (g : Gks d n ps) (e : ps.length = xs.length + 1 := by rfl) (l : ps.length ≤ 11 := by exact Nat.le_of_ble_eq_true rfl) : Gk (6 + d) (n + 1) (.mk (.bind w xs) ps) := by
  refine Gk.mono (Gk.of (h := .bind w xs) g ⟨e, hw, fun x m => (hx x m).1⟩ hx trivial l) ?_ (Nat.le_refl _)
  show (if w = "rec" then 6 else 3) + d ≤ 6 + d
  split <;> omega
theorem gk_let {d n : Nat} {xs : List Str} {ps : List Tr} (hx : ∀ x ∈ xs, gw x) (g : Gks d n ps) (e : ps.length = xs.length + 1 := by rfl) (l : ps.length ≤ 11 := by exact Nat.le_of_ble_eq_true rfl) : Gk (3 + d) (n + 1) (.mk (.bind "let" xs) ps) := by
  refine Gk.mono (Gk.of (h := .bind "let" xs) g ⟨e, by decide, fun x m => (hx x m).1⟩ hx trivial l) ?_ (Nat.le_refl _)
  show (if ("let" : Str) = "rec" then 6 else 3) + d ≤ 3 + d
  rw [if_neg (by decide +kernel)]
  exact Nat.le_refl _
theorem gk_plain {d n : Nat} {w : Str} {ps : List Tr} (hw : w ∈ plainW) (g : Gks d n ps) (l : ps.length ≤ 11 := by exact Nat.le_of_ble_eq_true rfl) : Gk (1 + d) (n + 1) (.mk (.plain w) ps) := Gk.of (h := .plain w) g hw trivial trivial l
theorem Gk.one {d n : Nat} {t : Tr} (g : Gk d n t) : Gks d n [t] := by
  have := g.cons (Gks.nil (d := d)) (Nat.le_refl _)
  exact this
theorem gk_show {d n : Nat} {b : Tr} (g : Gk d n b) : Gk (1 + d) (n + 1) (.mk (.plain "show") [b]) := gk_plain (by decide) g.one
theorem gk_mark {d n : Nat} {b : Tr} (g : Gk d n b) : Gk (1 + d) (n + 1) (.mk (.plain "mark") [b]) := gk_plain (by decide) g.one
theorem gk_if {d n : Nat} {ps : List Tr} (g : Gks d n ps) (l : ps.length ≤ 11 := by exact Nat.le_of_ble_eq_true rfl) : Gk (1 + d) (n + 1) (.mk (.plain "if") ps) := gk_plain (by decide) g l
theorem gk_wind {d n : Nat} {ps : List Tr} (g : Gks d n ps) (l : ps.length ≤ 11 := by exact Nat.le_of_ble_eq_true rfl) : Gk (1 + d) (n + 1) (.mk (.plain "wind") ps) := gk_plain (by decide) g l
end Cm

set_option linter.all false
/-! the text of a tree; what has no set has no text of it -/
namespace Cm
open PySem L2 PySem.Spec PyProof.Rows
def cs (s : Str) : List Nat := s.cps.toList
theorem cs_app (a b : Str) : cs (a ++ b) = cs a ++ cs b := by
  show (a ++ b).cps.toList = _
  rw [show (a ++ b).cps = a.cps ++ b.cps from rfl, Array.toList_append]
  rfl
theorem len_cs (a : Str) : a.length = (cs a).length := by
  show a.cps.size = a.cps.toList.length
  simp
theorem len_app (a b : Str) : (a ++ b).length = a.length + b.length := by rw [len_cs, cs_app, List.length_append, ← len_cs, ← len_cs]
/-- reading s from state p one comes to q -/
def sc (p : Nat) (s : Str) (q : Nat) : Prop := scan p (cs s) = some q
instance (p : Nat) (s : Str) (q : Nat) : Decidable (sc p s q) := by unfold sc; infer_instance
theorem sc_app {p q r : Nat} {a b : Str} (h : sc p a q) (k : sc q b r) : sc p (a ++ b) r := by
  show scan p (cs (a ++ b)) = some r
  rw [cs_app, scan_app, show scan p (cs a) = some q from h]
  exact k
theorem no_set {s : Str} {q : Nat} (h : sc 0 s q) : (!(Builtin.Str.occurrences s ("(set " : Str) 0 s.length 1).isEmpty) = false := by
  rw [Bool.eq_false_iff]
  intro z
  obtain ⟨i, h1, h2⟩ := (StrLaws.found_iff s _).mp z
  rw [StrLaws.subAt_eq, beq_iff_eq] at h2
  have e5 : ("(set " : Str).length = 5 := by decide +kernel
  have ep : ("(set " : Str).cps.toList = patS := by decide +kernel
  rw [e5, ep] at h2
  have e : cs s = (cs s).take i ++ (patS ++ (cs s).drop (i + 5)) := by
    rw [← h2]
    show cs s = _ ++ (((cs s).drop i).take 5 ++ (cs s).drop (i + 5))
    rw [← List.drop_drop, List.take_append_drop, List.take_append_drop]
  have := scan_none e
  rw [show scan 0 (cs s) = some q from h] at this
  cases this
theorem scan_num : ∀ (l : List Nat) (q : Nat), q ≤ 4 → l ≠ [] → (∀ c ∈ l, (48 ≤ c ∧ c ≤ 57) ∨ c = 45) → scan q l = some 0
  | [], _, _, h, _ => absurd rfl h
  | c :: l, q, hq, _, ha => by
    have hc := ha c List.mem_cons_self
    have e : stp q c = 0 := by
      unfold stp
      have : ∀ q < 5, patS[q]? ≠ some c := fun q hq z => by
        have key : ∀ q < 5, ∀ d, patS[q]? = some d → ¬ ((48 ≤ d ∧ d ≤ 57) ∨ d = 45) := by
          intro q hq d e
          match q, hq with
          | 0, _ => cases e; decide
          | 1, _ => cases e; decide
          | 2, _ => cases e; decide
          | 3, _ => cases e; decide
          | 4, _ => cases e; decide
        exact key q hq c z hc
      rw [if_neg (this q (by omega)), if_neg (by omega)]
    show (if stp q c = 5 then none else scan (stp q c) l) = _
    rw [e, if_neg (by decide)]
    cases l with
    | nil => rfl
    | cons d r => exact scan_num (d :: r) 0 (by decide) (fun z => by cases z) fun x m => ha x (List.mem_cons_of_mem _ m)
theorem cs_num (i : Int) : cs (Str.ofString (toString i)) ≠ [] ∧ (∀ c ∈ cs (Str.ofString (toString i)), (48 ≤ c ∧ c ≤ 57) ∨ c = 45) ∧ (i.natAbs ≤ 1000000000 → (cs (Str.ofString (toString i))).length ≤ 11) := by
  cases i with
  | ofNat n =>
    have e : cs (Str.ofString (toString (Int.ofNat n))) = TL.numL n := TL.tl_num n
    rw [e]
    refine ⟨TL.numL_ne n, fun c m => .inl (TL.numL_digits n c m), fun h => ?_⟩
    have := TL.numL_len (n := n) (k := 10) (by decide) (by have h' : n ≤ 1000000000 := h; omega)
    omega
  | negSucc n =>
    have e : cs (Str.ofString (toString (Int.negSucc n))) = 45 :: TL.numL (n + 1) := by
      rw [← TL.tl_num (n + 1)]
      show (Str.ofString (toString (Int.negSucc n))).cps.toList = 45 :: (Str.ofString (toString (((n + 1 : Nat)) : Int))).cps.toList
      have e1 : toString (Int.negSucc n) = "-" ++ Nat.repr (n + 1) := rfl
      have e2 : toString (((n + 1 : Nat)) : Int) = Nat.repr (n + 1) := rfl
      rw [e1, e2, Str.ofString_eq_toList, Str.ofString_eq_toList, String.toList_append]
      rfl
    rw [e]
    refine ⟨fun z => (by cases z), fun c m => ?_, fun h => ?_⟩
    · rcases List.mem_cons.mp m with rfl | m
      · exact .inr rfl
      · exact .inl (TL.numL_digits (n + 1) c m)
    · have := TL.numL_len (n := n + 1) (k := 10) (by decide) (by have h' : n + 1 ≤ 1000000000 := h; omega)
      rw [List.length_cons]
      omega
/-! ### the text -/
def rowT (x s : Str) : Str := ((("(" : Str) ++ x) ++ (" " : Str)) ++ s ++ (")" : Str)
def txtH : Hd → List Str → Str
  | .num i, _ => Str.ofString (toString i)
  | .name x, _ => x
  | .lit w, _ => if w ∈ (["true", "false", "none"] : List Str) then w else (("(" : Str) ++ Str.join " " [w]) ++ (")" : Str)
  | .fn xs, ss => ((("(fn (" : Str) ++ Str.join " " xs) ++ (") " : Str)) ++ ss.headD "" ++ (")" : Str)
  | .bind w xs, ss => ((((("(" : Str) ++ w) ++ (" (" : Str)) ++ Str.join " " ((xs.zip ss).map fun r => rowT r.1 r.2)) ++ (") " : Str)) ++ (ss.drop xs.length).headD "" ++ (")" : Str)
  | .one w x, ss => ((((("(" : Str) ++ w) ++ (" " : Str)) ++ x) ++ (" " : Str)) ++ ss.headD "" ++ (")" : Str)
  | .doo, ss => (("(" : Str) ++ Str.join " " ("do" :: ss)) ++ (")" : Str)
  | .call, ss => (("(" : Str) ++ Str.join " " ss) ++ (")" : Str)
  | .op o, ss => (("(" : Str) ++ Str.join " " (o :: ss)) ++ (")" : Str)
  | .plain w, ss => (("(" : Str) ++ Str.join " " (w :: ss)) ++ (")" : Str)
mutual
def Tr.txt : Tr → Str
  | .mk h ps => txtH h (Tr.txts ps)
def Tr.txts : List Tr → List Str
  | [] => []
  | t :: ts => t.txt :: Tr.txts ts
end
theorem txts_map : ∀ ps : List Tr, Tr.txts ps = ps.map Tr.txt
  | [] => rfl
  | t :: ts => by
    show t.txt :: Tr.txts ts = _
    rw [txts_map ts]
    rfl
/-! ### how long it is, and how it reads -/
structure TxtOk (n : Nat) (s : Str) : Prop where
  len : s.length + 6 ≤ n
  s0 : sc 0 s 0
  s1 : sc 1 s 0
structure TxtsOk (n : Nat) (ss : List Str) : Prop where
  al : ∀ s ∈ ss, sc 0 s 0 ∧ sc 1 s 0
  sum : (ss.map (·.length)).sum + 6 * ss.length ≤ n
theorem TxtsOk.nil {n : Nat} : TxtsOk n [] := ⟨fun s m => (by cases m), Nat.zero_le _⟩
theorem TxtOk.cons {n m : Nat} {s : Str} {ss : List Str} (h : TxtOk n s) (k : TxtsOk m ss) : TxtsOk (n + m) (s :: ss) :=
  ⟨fun u mu => by
    rcases List.mem_cons.mp mu with rfl | mu
    · exact ⟨h.s0, h.s1⟩
    · exact k.al u mu, by
    have h1 := h.len
    have h2 := k.sum
    rw [List.map_cons, List.sum_cons, List.length_cons]
    omega⟩
theorem join_sc : ∀ (ss : List Str), ss ≠ [] → (∀ s ∈ ss, sc 0 s 0 ∧ sc 1 s 0) → sc 0 (Str.join " " ss) 0 ∧ sc 1 (Str.join " " ss) 0
  | [], h, _ => absurd rfl h
  | [x], _, h => h x List.mem_cons_self
  | x :: y :: r, _, h => by
    have hx := h x List.mem_cons_self
    have ih := join_sc (y :: r) (fun z => by cases z) fun s m => h s (List.mem_cons_of_mem _ m)
    have e : Str.join " " (x :: y :: r) = x ++ (" " : Str) ++ Str.join " " (y :: r) := rfl
    have sp : sc 0 (" " : Str) 0 := by decide +kernel
    rw [e]
    exact ⟨sc_app (sc_app hx.1 sp) ih.1, sc_app (sc_app hx.2 sp) ih.1⟩
theorem join_len : ∀ (ss : List Str), (Str.join " " ss).length ≤ (ss.map (·.length)).sum + ss.length
  | [] => Nat.le_refl _
  | [x] => by
    show x.length ≤ _
    rw [List.map_cons, List.sum_cons, List.length_cons]
    omega
  | x :: y :: r => by
    have ih := join_len (y :: r)
    have e : Str.join " " (x :: y :: r) = x ++ (" " : Str) ++ Str.join " " (y :: r) := rfl
    have sp : (" " : Str).length = 1 := by decide +kernel
    rw [e, len_app, len_app, sp, List.map_cons, List.sum_cons, List.length_cons]
    omega
theorem join_ge : ∀ (ss : List Str), (ss.map (·.length)).sum ≤ (Str.join " " ss).length
  | [] => Nat.zero_le _
  | [x] => by
    show _ ≤ x.length
    simp
  | x :: y :: r => by
    have ih := join_ge (y :: r)
    have e : Str.join " " (x :: y :: r) = x ++ (" " : Str) ++ Str.join " " (y :: r) := rfl
    rw [e, len_app, len_app, List.map_cons, List.sum_cons]
    omega
theorem gw_sc {x : Str} (h : gw x) : sc 0 x 0 ∧ sc 1 x 0 := ⟨h.2.2.1, h.2.2.2⟩
theorem go_sc {x : Str} (h : go x) : sc 0 x 0 ∧ sc 1 x 0 := ⟨h.2.2.1, h.2.2.2⟩
theorem names_sum : ∀ {xs : List Str}, (∀ x ∈ xs, gw x) → (xs.map (·.length)).sum ≤ 2 * xs.length
  | [], _ => Nat.le_refl _
  | x :: xs, h => by
    have h1 := (h x List.mem_cons_self).2.1
    have h2 := names_sum (xs := xs) fun y m => h y (List.mem_cons_of_mem _ m)
    rw [List.map_cons, List.sum_cons, List.length_cons]
    omega
theorem rowT_ok {x s : Str} (h : gw x) (k : sc 0 s 0) : (sc 0 (rowT x s) 0 ∧ sc 1 (rowT x s) 0) ∧ (rowT x s).length ≤ s.length + 5 := by
  have a0 : sc 0 ("(" : Str) 1 := by decide +kernel
  have a1 : sc 1 ("(" : Str) 1 := by decide +kernel
  have b : sc 0 (" " : Str) 0 := by decide +kernel
  have c : sc 0 (")" : Str) 0 := by decide +kernel
  have l1 : ("(" : Str).length = 1 := by decide +kernel
  have l2 : (" " : Str).length = 1 := by decide +kernel
  have l3 : (")" : Str).length = 1 := by decide +kernel
  refine ⟨⟨sc_app (sc_app (sc_app (sc_app a0 (gw_sc h).2) b) k) c, sc_app (sc_app (sc_app (sc_app a1 (gw_sc h).2) b) k) c⟩, ?_⟩
  have := h.2.1
  unfold rowT
  rw [len_app, len_app, len_app, len_app, l1, l2, l3]
  omega
theorem rows_ok : ∀ {xs ss : List Str}, (∀ x ∈ xs, gw x) → (∀ s ∈ ss, sc 0 s 0 ∧ sc 1 s 0) → (∀ s ∈ (xs.zip ss).map fun r => rowT r.1 r.2, sc 0 s 0 ∧ sc 1 s 0) ∧ ((((xs.zip ss).map fun r => rowT r.1 r.2).map (·.length)).sum + ((xs.zip ss).map fun r => rowT r.1 r.2).length ≤ ((ss.take xs.length).map (·.length)).sum + 6 * (ss.take xs.length).length)
  | [], ss, _, _ => ⟨fun s m => (by cases m), Nat.zero_le _⟩
  | x :: xs, [], _, _ => ⟨fun s m => (by cases m), Nat.zero_le _⟩
  | x :: xs, s :: ss, hx, hs => by
    have ih := rows_ok (xs := xs) (ss := ss) (fun y m => hx y (List.mem_cons_of_mem _ m)) (fun y m => hs y (List.mem_cons_of_mem _ m))
    have r := rowT_ok (hx x List.mem_cons_self) (hs s List.mem_cons_self).1
    refine ⟨fun y m => ?_, ?_⟩
    · rcases List.mem_cons.mp m with rfl | m
      · exact r.1
      · exact ih.1 y m
    · have i2 := ih.2
      have r2 := r.2
      show (rowT x s).length + (((xs.zip ss).map fun r => rowT r.1 r.2).map (·.length)).sum + (((xs.zip ss).map fun r => rowT r.1 r.2).length + 1) ≤ s.length + ((ss.take xs.length).map (·.length)).sum + 6 * ((ss.take xs.length).length + 1)
      omega
/-- a head word and texts in brackets -/
theorem brk_ok {w : Str} {ss : List Str} {n : Nat} (hw : sc 1 w 0) (hl : w.length ≤ 6) (h : TxtsOk n ss) : TxtOk (n + 48) ((("(" : Str) ++ Str.join " " (w :: ss)) ++ (")" : Str)) := by
  have a0 : sc 0 ("(" : Str) 1 := by decide +kernel
  have a1 : sc 1 ("(" : Str) 1 := by decide +kernel
  have c : sc 0 (")" : Str) 0 := by decide +kernel
  have l1 : ("(" : Str).length = 1 := by decide +kernel
  have l3 : (")" : Str).length = 1 := by decide +kernel
  have j : sc 1 (Str.join " " (w :: ss)) 0 := by
    cases ss with
    | nil => exact hw
    | cons y r =>
      have e : Str.join " " (w :: y :: r) = w ++ (" " : Str) ++ Str.join " " (y :: r) := rfl
      have sp : sc 0 (" " : Str) 0 := by decide +kernel
      rw [e]
      exact sc_app (sc_app hw sp) (join_sc (y :: r) (fun z => by cases z) h.al).1
  refine ⟨?_, sc_app (sc_app a0 j) c, sc_app (sc_app a1 j) c⟩
  have hj := join_len (w :: ss)
  have := h.sum
  rw [List.map_cons, List.sum_cons, List.length_cons] at hj
  rw [len_app, len_app, l1, l3]
  omega
theorem txtH_ok {h : Hd} {ss : List Str} {n : Nat} (o : hok h ss.length) (g : gH h) (nw : nwH h) (ns : nsH h) (k : TxtsOk n ss) : TxtOk (n + 48) (txtH h ss) := by
  have a0 : sc 0 ("(" : Str) 1 := by decide +kernel
  have a1 : sc 1 ("(" : Str) 1 := by decide +kernel
  have b : sc 0 (" " : Str) 0 := by decide +kernel
  have c : sc 0 (")" : Str) 0 := by decide +kernel
  have l1 : ("(" : Str).length = 1 := by decide +kernel
  have l2 : (" " : Str).length = 1 := by decide +kernel
  have l3 : (")" : Str).length = 1 := by decide +kernel
  have l4 : (") " : Str).length = 2 := by decide +kernel
  have d0 : sc 0 (") " : Str) 0 := by decide +kernel
  have d1 : sc 1 (") " : Str) 0 := by decide +kernel
  have ksum := k.sum
  cases h with
  | num i =>
    obtain ⟨e1, e2, e3⟩ := cs_num i
    refine ⟨?_, scan_num _ 0 (by decide) e1 e2, scan_num _ 1 (by decide) e1 e2⟩
    show (Str.ofString (toString i)).length + 6 ≤ n + 48
    rw [len_cs]
    have := e3 g
    omega
  | name x =>
    have g' : gw x := g
    exact ⟨by have := g'.2.1; show x.length + 6 ≤ _; omega, (gw_sc g').1, (gw_sc g').2⟩
  | lit w =>
    have key : ∀ w ∈ litW, sc 0 (txtH (.lit w) []) 0 ∧ sc 1 (txtH (.lit w) []) 0 ∧ (txtH (.lit w) []).length ≤ 10 := by decide +kernel
    have z := key w o.2
    exact ⟨by have := z.2.2; show (txtH (.lit w) []).length + 6 ≤ _; omega, z.1, z.2.1⟩
  | fn xs =>
    obtain ⟨s, rfl⟩ := one_of (show ss.length = 1 from o.1)
    have ks := k.al s List.mem_cons_self
    have g' : ∀ x ∈ xs, gw x := g
    have f0 : sc 0 ("(fn (" : Str) 1 := by decide +kernel
    have f1 : sc 1 ("(fn (" : Str) 1 := by decide +kernel
    have l5 : ("(fn (" : Str).length = 5 := by decide +kernel
    have j : ∃ q, q ≤ 1 ∧ sc 1 (Str.join " " xs) q := by
      cases xs with
      | nil => exact ⟨1, Nat.le_refl _, by show sc 1 Str.empty 1; decide +kernel⟩
      | cons x r => exact ⟨0, by decide, (join_sc (x :: r) (fun z => by cases z) fun y m => gw_sc (g' y m)).2⟩
    obtain ⟨q, q1, jq⟩ := j
    have dq : sc q (") " : Str) 0 := by
      rcases Nat.le_one_iff_eq_zero_or_eq_one.mp q1 with rfl | rfl
      · exact d0
      · exact d1
    refine ⟨?_, sc_app (sc_app (sc_app (sc_app f0 jq) dq) ks.1) c, sc_app (sc_app (sc_app (sc_app f1 jq) dq) ks.1) c⟩
    have hj := join_len xs
    have hn := names_sum g'
    have hx : xs.length ≤ 10 := nw
    have e : (([s] : List Str).map (·.length)).sum = s.length := by simp
    rw [e] at ksum
    show (((("(fn (" : Str) ++ Str.join " " xs) ++ (") " : Str)) ++ s ++ (")" : Str)).length + 6 ≤ _
    rw [len_app, len_app, len_app, len_app, l5, l4, l3]
    rw [List.length_singleton] at ksum
    omega
  | one w x =>
    obtain ⟨s, rfl⟩ := one_of (show ss.length = 1 from o.1)
    have ks := k.al s List.mem_cons_self
    have g' : gw x := g
    have key : ∀ w ∈ oneW, w ≠ "set" → sc 1 w 0 ∧ w.length ≤ 4 := by decide +kernel
    have z := key w o.2.1 ns
    refine ⟨?_, sc_app (sc_app (sc_app (sc_app (sc_app (sc_app a0 z.1) b) (gw_sc g').1) b) ks.1) c, sc_app (sc_app (sc_app (sc_app (sc_app (sc_app a1 z.1) b) (gw_sc g').1) b) ks.1) c⟩
    have := g'.2.1
    have e : (([s] : List Str).map (·.length)).sum = s.length := by simp
    rw [e, List.length_singleton] at ksum
    show ((((("(" : Str) ++ w) ++ (" " : Str)) ++ x) ++ (" " : Str) ++ s ++ (")" : Str)).length + 6 ≤ _
    rw [len_app, len_app, len_app, len_app, len_app, len_app, l1, l2, l3]
    have := z.2
    omega
  | bind w xs =>
    have g' : ∀ x ∈ xs, gw x := g
    have key : ∀ w ∈ bindW, sc 1 w 0 ∧ w.length = 3 := by decide +kernel
    have z := key w o.2.1
    have lss : ss.length = xs.length + 1 := o.1
    have p0 : sc 0 (" (" : Str) 1 := by decide +kernel
    have l6 : (" (" : Str).length = 2 := by decide +kernel
    obtain ⟨s, es⟩ : ∃ s, ss.drop xs.length = [s] := by
      have : (ss.drop xs.length).length = 1 := by rw [List.length_drop]; omega
      exact one_of this
    have ms : s ∈ ss := List.mem_of_mem_drop (show s ∈ ss.drop xs.length by rw [es]; exact List.mem_cons_self)
    have ks := k.al s ms
    obtain ⟨r1, r2⟩ := rows_ok (xs := xs) (ss := ss) g' k.al
    have j : ∃ q, q ≤ 1 ∧ sc 1 (Str.join " " ((xs.zip ss).map fun r => rowT r.1 r.2)) q := by
      cases er : (xs.zip ss).map fun r => rowT r.1 r.2 with
      | nil => exact ⟨1, Nat.le_refl _, by show sc 1 Str.empty 1; decide +kernel⟩
      | cons x r =>
        rw [er] at r1
        exact ⟨0, by decide, (join_sc (x :: r) (fun z => by cases z) r1).2⟩
    obtain ⟨q, q1, jq⟩ := j
    have dq : sc q (") " : Str) 0 := by
      rcases Nat.le_one_iff_eq_zero_or_eq_one.mp q1 with rfl | rfl
      · exact d0
      · exact d1
    have hj := join_len ((xs.zip ss).map fun r => rowT r.1 r.2)
    have esum : (ss.map (·.length)).sum = ((ss.take xs.length).map (·.length)).sum + s.length := by
      conv => lhs; rw [← List.take_append_drop xs.length ss]
      rw [es, List.map_append, List.sum_append]
      simp
    have elen : (ss.take xs.length).length = xs.length := by rw [List.length_take]; omega
    rw [esum, lss] at ksum
    rw [elen] at r2
    have et : txtH (.bind w xs) ss = ((((("(" : Str) ++ w) ++ (" (" : Str)) ++ Str.join " " ((xs.zip ss).map fun r => rowT r.1 r.2)) ++ (") " : Str)) ++ s ++ (")" : Str) := by
      show ((((("(" : Str) ++ w) ++ (" (" : Str)) ++ Str.join " " ((xs.zip ss).map fun r => rowT r.1 r.2)) ++ (") " : Str)) ++ (ss.drop xs.length).headD "" ++ (")" : Str) = _
      rw [es]
      rfl
    rw [et]
    refine ⟨?_, sc_app (sc_app (sc_app (sc_app (sc_app (sc_app a0 z.1) p0) jq) dq) ks.1) c, sc_app (sc_app (sc_app (sc_app (sc_app (sc_app a1 z.1) p0) jq) dq) ks.1) c⟩
    rw [len_app, len_app, len_app, len_app, len_app, len_app, l1, l3, l4, l6, z.2]
    omega
  | doo => exact brk_ok (by decide +kernel) (by decide +kernel) k
  | op x =>
    have g' : go x := g
    exact brk_ok (go_sc g').2 g'.2.1 k
  | plain w =>
    have key : ∀ w ∈ plainW, sc 1 w 0 ∧ w.length ≤ 6 := by decide +kernel
    have z := key w o
    exact brk_ok z.1 z.2 k
  | call =>
    have hl : 1 ≤ ss.length := o
    have j := join_sc ss (fun z => by rw [z] at hl; exact absurd hl (by decide)) k.al
    refine ⟨?_, sc_app (sc_app a0 j.2) c, sc_app (sc_app a1 j.2) c⟩
    have hj := join_len ss
    show ((("(" : Str) ++ Str.join " " ss) ++ (")" : Str)).length + 6 ≤ _
    rw [len_app, len_app, l1, l3]
    omega
mutual
theorem txt_ok : ∀ t : Tr, t.ok → t.nw → t.gd → t.ns → TxtOk (48 * t.size) t.txt
  | .mk h ps, o, w, g, n => by
    have o' : hok h ps.length ∧ ps.length ≤ 11 ∧ Tr.oks ps := o
    have w' : nwH h ∧ Tr.nws ps := w
    have g' : gH h ∧ Tr.gds ps := g
    have n' : nsH h ∧ Tr.nss ps := n
    have e : (Tr.txts ps).length = ps.length := by rw [txts_map, List.length_map]
    have := txtH_ok (by rw [e]; exact o'.1) g'.1 w'.1 n'.1 (txts_ok ps o'.2.2 w'.2 g'.2 n'.2)
    show TxtOk (48 * (Tr.sizes ps + 1)) (txtH h (Tr.txts ps))
    rw [Nat.mul_succ]
    exact this
theorem txts_ok : ∀ ts : List Tr, Tr.oks ts → Tr.nws ts → Tr.gds ts → Tr.nss ts → TxtsOk (48 * Tr.sizes ts) (Tr.txts ts)
  | [], _, _, _, _ => TxtsOk.nil
  | t :: ts, o, w, g, n => by
    have o' : t.ok ∧ Tr.oks ts := o
    have w' : t.nw ∧ Tr.nws ts := w
    have g' : t.gd ∧ Tr.gds ts := g
    have n' : t.ns ∧ Tr.nss ts := n
    have := TxtOk.cons (txt_ok t o'.1 w'.1 g'.1 n'.1) (txts_ok ts o'.2 w'.2 g'.2 n'.2)
    show TxtsOk (48 * (t.size + Tr.sizes ts)) (t.txt :: Tr.txts ts)
    rw [Nat.mul_add]
    exact this
end
end Cm

set_option linter.all false
/-! texts as nodes: words and brackets; how a text lays nodes out -/
namespace Cm
open PySem L2 PySem.Spec PyProof.Rows
inductive Nd where
  | w (s : Str)
  | l (ns : List Nd)
mutual
def Nd.toks : Nd → List Str
  | .w s => [s]
  | .l ns => ("(" : Str) :: (Nd.tokss ns ++ [(")" : Str)])
def Nd.tokss : List Nd → List Str
  | [] => []
  | n :: ns => n.toks ++ Nd.tokss ns
end
mutual
/-- how deep brackets stand in one another -/
def Nd.dep : Nd → Nat
  | .w _ => 0
  | .l ns => Nd.deps ns + 1
def Nd.deps : List Nd → Nat
  | [] => 0
  | n :: ns => max n.dep (Nd.deps ns)
end
def sep (c : Nat) : Bool := c == 32 || c == 10 || c == 40 || c == 41
def ofL (l : List Nat) : Str := ⟨l.toArray⟩
theorem cs_ofL (l : List Nat) : cs (ofL l) = l := by show l.toArray.toList = l; simp
theorem ofL_cs (s : Str) : ofL (cs s) = s := by cases s; show Str.mk _ = _; simp [cs]
theorem cs_inj {a b : Str} (h : cs a = cs b) : a = b := by rw [← ofL_cs a, ← ofL_cs b, h]
/-- a word: signs that part nothing -/
def wdOk (s : Str) : Prop := cs s ≠ [] ∧ ∀ c ∈ cs s, sep c = false ∧ 32 ≤ c ∧ c ≤ 126
instance (s : Str) : Decidable (wdOk s) := by unfold wdOk; infer_instance
mutual
def Nd.good : Nd → Prop
  | .w s => wdOk s
  | .l ns => Nd.goods ns
def Nd.goods : List Nd → Prop
  | [] => True
  | n :: ns => n.good ∧ Nd.goods ns
end
def blank (b : List Nat) : Prop := ∀ c ∈ b, c = 32 ∨ c = 10
inductive Lays : List Nat → List Nd → Prop
  | nil {b : List Nat} : blank b → Lays b []
  | word {b r : List Nat} {s : Str} {ns : List Nd} : blank b → wdOk s → (r = [] ∨ ∃ c r', r = c :: r' ∧ sep c = true) → Lays r ns → Lays (b ++ (cs s ++ r)) (.w s :: ns)
  | list {b m r : List Nat} {ms ns : List Nd} : blank b → Lays m ms → Lays r ns → Lays (b ++ (40 :: (m ++ (41 :: r)))) (.l ms :: ns)
/-! ### pieces -/
def stT (st : List Str × List Nat) (c : Nat) : List Str × List Nat :=
  if sep c = true then (st.1 ++ (if st.2 = [] then [] else [ofL st.2]) ++ (if c = 40 ∨ c = 41 then [ofL [c]] else []), []) else (st.1, st.2 ++ [c])
def runT (st : List Str × List Nat) (l : List Nat) : List Str × List Nat := l.foldl stT st
theorem runT_app (st : List Str × List Nat) (a b : List Nat) : runT st (a ++ b) = runT (runT st a) b := List.foldl_append
theorem runT_blank {b : List Nat} (h : blank b) (d : List Str) : runT (d, []) b = (d, []) := by
  induction b with
  | nil => rfl
  | cons c b ih =>
    have hc := h c List.mem_cons_self
    have e : stT (d, []) c = (d, []) := by
      rcases hc with rfl | rfl
      · show (if sep 32 = true then (d ++ [] ++ [], []) else _) = _
        rw [if_pos (by decide)]
        simp
      · show (if sep 10 = true then (d ++ [] ++ [], []) else _) = _
        rw [if_pos (by decide)]
        simp
    show runT (stT (d, []) c) b = _
    rw [e]
    exact ih fun x m => h x (List.mem_cons_of_mem _ m)
theorem runT_word : ∀ (l : List Nat) (d : List Str) (u : List Nat), (∀ c ∈ l, sep c = false) → runT (d, u) l = (d, u ++ l)
  | [], d, u, _ => by simp [runT]
  | c :: l, d, u, h => by
    have e : stT (d, u) c = (d, u ++ [c]) := if_neg (by rw [h c List.mem_cons_self]; exact Bool.false_ne_true)
    show runT (stT (d, u) c) l = _
    rw [e, runT_word l d (u ++ [c]) fun x m => h x (List.mem_cons_of_mem _ m), List.append_assoc]
    rfl
theorem stT_sep {d : List Str} {u : List Nat} {c : Nat} (h : sep c = true) (n : u ≠ []) : stT (d, u) c = stT (d ++ [ofL u], []) c := by
  unfold stT
  rw [if_pos h, if_pos h]
  simp [n]
theorem runT_lays {l : List Nat} {ns : List Nd} (h : Lays l ns) : ∀ (d : List Str) (c : Nat) (t : List Nat), sep c = true → runT (d, []) (l ++ c :: t) = runT (d ++ Nd.tokss ns, []) (c :: t) := by
  induction h with
  | nil hb =>
    intro d c t hc
    rw [runT_app, runT_blank hb]
    show _ = runT (d ++ [], []) (c :: t)
    rw [List.append_nil]
  | @word b r s ns hb hs hr _ ih =>
    intro d c t hc
    rw [List.append_assoc, List.append_assoc, runT_app, runT_blank hb, runT_app, runT_word (cs s) d [] (fun c m => (hs.2 c m).1), List.nil_append]
    have step : ∀ (c0 : Nat) (t0 : List Nat), sep c0 = true → runT (d, cs s) (c0 :: t0) = runT (d ++ [s], []) (c0 :: t0) := fun c0 t0 h0 => by
      show runT (stT (d, cs s) c0) t0 = runT (stT (d ++ [s], []) c0) t0
      rw [stT_sep h0 hs.1, ofL_cs]
    have e2 : d ++ Nd.tokss (.w s :: ns) = d ++ [s] ++ Nd.tokss ns := by
      show d ++ ([s] ++ Nd.tokss ns) = _
      rw [List.append_assoc]
    rw [e2]
    rcases hr with rfl | ⟨c0, r', rfl, h0⟩
    · rw [List.nil_append, step c t hc, ← List.nil_append (c :: t), ih (d ++ [s]) c t hc]
      rfl
    · rw [List.cons_append, step c0 _ h0, ← List.cons_append, ih (d ++ [s]) c t hc]
  | @list b m r ms ns hb _ _ ih1 ih2 =>
    intro d c t hc
    have e1 : b ++ (40 :: (m ++ (41 :: r))) ++ c :: t = b ++ (40 :: (m ++ (41 :: (r ++ c :: t)))) := by simp
    rw [e1, runT_app, runT_blank hb]
    have p1 : stT (d, []) 40 = (d ++ [("(" : Str)], []) := by
      unfold stT
      rw [if_pos (by decide), if_pos rfl, if_pos (.inl rfl), List.append_nil]
      rfl
    show runT (stT (d, []) 40) (m ++ (41 :: (r ++ c :: t))) = _
    rw [p1, ih1 _ 41 _ (by decide)]
    have p2 : ∀ d' : List Str, stT (d', []) 41 = (d' ++ [(")" : Str)], []) := fun d' => by
      unfold stT
      rw [if_pos (by decide), if_pos rfl, if_pos (.inr rfl), List.append_nil]
      rfl
    show runT (stT (d ++ [("(" : Str)] ++ Nd.tokss ms, []) 41) (r ++ c :: t) = _
    rw [p2, ih2 _ c t hc]
    congr 2
    show d ++ [("(" : Str)] ++ Nd.tokss ms ++ [(")" : Str)] ++ Nd.tokss ns = d ++ ((("(" : Str) :: (Nd.tokss ms ++ [(")" : Str)])) ++ Nd.tokss ns)
    simp
theorem pieces_lays {l : List Nat} {ns : List Nd} (h : Lays l ns) : (runT ([], []) (l ++ [32])).1 = Nd.tokss ns := by
  rw [runT_lays h [] 32 [] (by decide), List.nil_append]
  show ((Nd.tokss ns) ++ [] ++ []) = _
  simp
/-! ### brackets, signs -/
def brk : Nat → List Nat → Option Nat
  | d, [] => some d
  | d, c :: r => if c = 40 then (if d = 30 then none else brk (d + 1) r) else if c = 41 then (if d = 0 then none else brk (d - 1) r) else brk d r
theorem brk_blank {b : List Nat} (h : ∀ c ∈ b, c ≠ 40 ∧ c ≠ 41) (d : Nat) (t : List Nat) : brk d (b ++ t) = brk d t := by
  induction b with
  | nil => rfl
  | cons c b ih =>
    have hc := h c List.mem_cons_self
    show (if c = 40 then _ else if c = 41 then _ else brk d (b ++ t)) = _
    rw [if_neg hc.1, if_neg hc.2]
    exact ih fun x m => h x (List.mem_cons_of_mem _ m)
theorem brk_lays {l : List Nat} {ns : List Nd} (h : Lays l ns) : ∀ (d : Nat) (t : List Nat), Nd.deps ns + d ≤ 30 → brk d (l ++ t) = brk d t := by
  have bl : ∀ {b : List Nat}, blank b → ∀ c ∈ b, c ≠ 40 ∧ c ≠ 41 := fun hb c m => by rcases hb c m with rfl | rfl <;> decide
  induction h with
  | nil hb => intro d t _; exact brk_blank (bl hb) d t
  | @word b r s ns hb hs _ _ ih =>
    intro d t hd
    have hd' : max 0 (Nd.deps ns) + d ≤ 30 := hd
    rw [List.append_assoc, List.append_assoc, brk_blank (bl hb), brk_blank, ih d t (by omega)]
    intro c m
    have := (hs.2 c m).1
    constructor
    · rintro rfl; exact absurd this (by decide)
    · rintro rfl; exact absurd this (by decide)
  | @list b m r ms ns hb _ _ ih1 ih2 =>
    intro d t hd
    have hd' : max (Nd.deps ms + 1) (Nd.deps ns) + d ≤ 30 := hd
    have e1 : b ++ (40 :: (m ++ (41 :: r))) ++ t = b ++ (40 :: (m ++ (41 :: (r ++ t)))) := by simp
    rw [e1, brk_blank (bl hb)]
    show (if (40 : Nat) = 40 then (if d = 30 then none else brk (d + 1) (m ++ (41 :: (r ++ t)))) else _) = _
    rw [if_pos rfl, if_neg (by omega), ih1 (d + 1) _ (by omega)]
    show (if (41 : Nat) = 40 then _ else if (41 : Nat) = 41 then (if d + 1 = 0 then none else brk (d + 1 - 1) (r ++ t)) else _) = _
    rw [if_neg (by decide), if_pos rfl, if_neg (by omega), Nat.add_sub_cancel, ih2 d t (by omega)]
def sgnOk (c : Nat) : Prop := c = 10 ∨ (32 ≤ c ∧ c ≤ 126)
theorem sgn_lays {l : List Nat} {ns : List Nd} (h : Lays l ns) : ∀ c ∈ l, sgnOk c := by
  have bl : ∀ {b : List Nat}, blank b → ∀ c ∈ b, sgnOk c := fun hb c m => by
    rcases hb c m with rfl | rfl
    · exact .inr (by decide)
    · exact .inl rfl
  induction h with
  | nil hb => exact bl hb
  | @word b r s ns hb hs _ _ ih =>
    intro c m
    rcases List.mem_append.mp m with m | m
    · exact bl hb c m
    rcases List.mem_append.mp m with m | m
    · exact .inr (hs.2 c m).2
    · exact ih c m
  | @list b m' r ms ns hb _ _ ih1 ih2 =>
    intro c m
    rcases List.mem_append.mp m with m | m
    · exact bl hb c m
    rcases List.mem_cons.mp m with rfl | m
    · exact .inr (by decide)
    rcases List.mem_append.mp m with m | m
    · exact ih1 c m
    rcases List.mem_cons.mp m with rfl | m
    · exact .inr (by decide)
    · exact ih2 c m
theorem good_lays {l : List Nat} {ns : List Nd} (h : Lays l ns) : Nd.goods ns := by
  induction h with
  | nil _ => trivial
  | word _ hs _ _ ih => exact ⟨hs, ih⟩
  | list _ _ _ ih1 ih2 => exact ⟨ih1, ih2⟩
/-! ### the rows that stand open -/
def stO : List (List Nd) → Str → Option (List (List Nd))
  | [], _ => none
  | s :: r, k => if k = "(" then some ([] :: s :: r) else if k = ")" then (match r with | [] => none | p :: r' => some ((p ++ [.l s]) :: r')) else some ((s ++ [.w k]) :: r)
theorem stO_eq (s : List Nd) (r : List (List Nd)) (k : Str) : stO (s :: r) k = if k = ("(" : Str) then some ([] :: s :: r) else if k = (")" : Str) then (match r with | [] => none | p :: r' => some ((p ++ [.l s]) :: r')) else some ((s ++ [.w k]) :: r) := rfl
def runO : List (List Nd) → List Str → Option (List (List Nd))
  | st, [] => some st
  | st, k :: ks => (stO st k).bind fun st' => runO st' ks
theorem runO_app : ∀ (a : List Str) (st : List (List Nd)) (b : List Str), runO st (a ++ b) = (runO st a).bind fun st' => runO st' b
  | [], _, _ => rfl
  | k :: a, st, b => by
    show (stO st k).bind (fun st' => runO st' (a ++ b)) = ((stO st k).bind fun st' => runO st' a).bind fun st' => runO st' b
    cases stO st k with
    | none => rfl
    | some st' => exact runO_app a st' b
theorem wd_no {s : Str} (h : wdOk s) : s ≠ "(" ∧ s ≠ ")" := by
  have e1 : cs ("(" : Str) = [40] := by decide +kernel
  have e2 : cs (")" : Str) = [41] := by decide +kernel
  constructor
  · rintro rfl
    have := (h.2 40 (by rw [e1]; exact List.mem_cons_self)).1
    exact absurd this (by decide)
  · rintro rfl
    have := (h.2 41 (by rw [e2]; exact List.mem_cons_self)).1
    exact absurd this (by decide)
mutual
theorem runO_nd : ∀ (n : Nd), n.good → ∀ (s : List Nd) (r : List (List Nd)) (t : List Str), runO (s :: r) (n.toks ++ t) = runO ((s ++ [n]) :: r) t
  | .w k, h, s, r, t => by
    show (stO (s :: r) k).bind (fun st' => runO st' t) = _
    have z := wd_no h
    have e : stO (s :: r) k = some ((s ++ [.w k]) :: r) := by
      rw [stO_eq, if_neg z.1, if_neg z.2]
    rw [e]
    rfl
  | .l ns, h, s, r, t => by
    have h' : Nd.goods ns := h
    have e : (Nd.l ns).toks ++ t = ("(" : Str) :: (Nd.tokss ns ++ ((")" : Str) :: t)) := by
      show (("(" : Str) :: (Nd.tokss ns ++ [(")" : Str)])) ++ t = _
      simp
    rw [e]
    have e1 : stO (s :: r) "(" = some ([] :: s :: r) := by
      rw [stO_eq, if_pos rfl]
    show (stO (s :: r) "(").bind (fun st' => runO st' (Nd.tokss ns ++ ((")" : Str) :: t))) = _
    rw [e1]
    show runO ([] :: s :: r) (Nd.tokss ns ++ ((")" : Str) :: t)) = _
    rw [runO_nds ns h' [] (s :: r) _, List.nil_append]
    have e2 : stO (ns :: s :: r) ")" = some ((s ++ [.l ns]) :: r) := by
      rw [stO_eq, if_neg (by decide +kernel), if_pos rfl]
    show (stO (ns :: s :: r) ")").bind (fun st' => runO st' t) = _
    rw [e2]
    rfl
theorem runO_nds : ∀ (ns : List Nd), Nd.goods ns → ∀ (s : List Nd) (r : List (List Nd)) (t : List Str), runO (s :: r) (Nd.tokss ns ++ t) = runO ((s ++ ns) :: r) t
  | [], _, s, r, t => by
    show runO (s :: r) t = _
    rw [List.append_nil]
  | n :: ns, h, s, r, t => by
    have h' : n.good ∧ Nd.goods ns := h
    show runO (s :: r) ((n.toks ++ Nd.tokss ns) ++ t) = _
    rw [List.append_assoc, runO_nd n h'.1, runO_nds ns h'.2, List.append_assoc]
    rfl
end
theorem runO_all {ns : List Nd} (h : Nd.goods ns) : runO [[]] (Nd.tokss ns) = some [ns] := by
  have := runO_nds ns h [] [] []
  rw [List.append_nil] at this
  exact this
theorem runO_take {st : List (List Nd)} {ks : List Str} {z : List (List Nd)} (h : runO st ks = some z) (i : Nat) : ∃ s, runO st (ks.take i) = some s ∧ runO s (ks.drop i) = some z := by
  rw [← List.take_append_drop i ks, runO_app] at h
  obtain ⟨s, e1, e2⟩ := Option.bind_eq_some_iff.mp h
  exact ⟨s, e1, e2⟩
end Cm

set_option linter.all false
/-! trees that can be read; the nodes that are read as a tree; how their text lies -/
namespace Cm
open PySem L2 PySem.Spec PyProof.Rows
def keptW : List Str := ["true", "false", "none", "fn", "let", "rec", "set", "if", "do", "keep", "once", "take", "mark", "wind", "show", "ask", "quot", "rem", "pair", "left", "right"]
def consW : List Str := ["true", "false", "none"]
def funW : List Str := ["fn", "take", "wind"]
def op2W : List Str := ["+", "-", "*", "quot", "rem", "<", "=", "same?", "pair", "left!", "right!"]
def op1W : List Str := ["left", "right", "pair?", "none?", "rest?", "fun?"]
def nmOk (x : Str) : Prop := sok x ∧ x.length ≤ 12 ∧ (∃ c r, cs x = c :: r ∧ 97 ≤ c ∧ c ≤ 122) ∧ (∀ c ∈ cs x, (97 ≤ c ∧ c ≤ 122) ∨ (48 ≤ c ∧ c ≤ 57) ∨ c = 45) ∧ x ∉ keptW
def numS (i : Int) : Str := Str.ofString (toString i)
def rgH : Hd → Nat → Prop
  | .num i, _ => i.natAbs ≤ 1000000000
  | .name x, _ => nmOk x
  | .lit _, _ => True
  | .one _ x, _ => nmOk x
  | .fn xs, _ => xs.length ≤ 8 ∧ ∀ x ∈ xs, nmOk x
  | .bind _ xs, _ => 1 ≤ xs.length ∧ xs.length ≤ 10 ∧ ∀ x ∈ xs, nmOk x
  | .doo, n => 1 ≤ n ∧ n ≤ 10
  | .call, n => 1 ≤ n ∧ n ≤ 11
  | .op o, n => (o ∈ op2W ∧ n = 2) ∨ (o ∈ op1W ∧ n = 1)
  | .plain w, n => n = (if w = "if" ∨ w = "wind" then 3 else 1)
def isFnT : Tr → Bool
  | .mk (.fn _) _ => true
  | _ => false
def recH : Hd → List Tr → Prop
  | .bind w xs, ps => w = "rec" → ∀ t ∈ ps.take xs.length, isFnT t = true
  | _, _ => True
mutual
def Tr.rg : Tr → Prop
  | .mk h ps => rgH h ps.length ∧ recH h ps ∧ Tr.rgs ps
def Tr.rgs : List Tr → Prop
  | [] => True
  | t :: ts => t.rg ∧ Tr.rgs ts
end
theorem rgs_iff : ∀ {ps : List Tr}, Tr.rgs ps ↔ ∀ t ∈ ps, t.rg
  | [] => by simp [Tr.rgs]
  | t :: ts => by
    show t.rg ∧ Tr.rgs ts ↔ _
    rw [rgs_iff]
    simp
def rowN (x : Str) (n : Nd) : Nd := .l [.w x, n]
def rowsN (xs : List Str) (ms : List Nd) : List Nd := (xs.zip ms).map fun r => rowN r.1 r.2
mutual
inductive Rd : Tr → Nd → Prop
  | num (i : Int) : Rd (.mk (.num i) []) (.w (numS i))
  | name (x : Str) : Rd (.mk (.name x) []) (.w x)
  | lit (w : Str) : w ∈ consW → Rd (.mk (.lit w) []) (.w w)
  | ask : Rd (.mk (.lit "ask") []) (.l [.w "ask"])
  | one (w x : Str) (t : Tr) (n : Nd) : Rd t n → Rd (.mk (.one w x) [t]) (.l [.w w, .w x, n])
  | fn (xs : List Str) (t : Tr) (ns : List Nd) : Bd t ns → ns.length ≤ 9 → Rd (.mk (.fn xs) [t]) (.l (.w "fn" :: .l (xs.map Nd.w) :: ns))
  | bind (w : Str) (xs : List Str) (ps : List Tr) (t : Tr) (ms ns : List Nd) : Rds ps ms → ps.length = xs.length → Bd t ns → ns.length ≤ 9 → Rd (.mk (.bind w xs) (ps ++ [t])) (.l (.w w :: .l (rowsN xs ms) :: ns))
  | doo (ps : List Tr) (ns : List Nd) : Rds ps ns → Rd (.mk .doo ps) (.l (.w "do" :: ns))
  | call (ps : List Tr) (ns : List Nd) : Rds ps ns → Rd (.mk .call ps) (.l ns)
  | op (o : Str) (ps : List Tr) (ns : List Nd) : Rds ps ns → Rd (.mk (.op o) ps) (.l (.w o :: ns))
  | plain (w : Str) (ps : List Tr) (ns : List Nd) : Rds ps ns → Rd (.mk (.plain w) ps) (.l (.w w :: ns))
inductive Rds : List Tr → List Nd → Prop
  | nil : Rds [] []
  | cons (t : Tr) (n : Nd) (ts : List Tr) (ns : List Nd) : Rd t n → Rds ts ns → Rds (t :: ts) (n :: ns)
inductive Bd : Tr → List Nd → Prop
  | one (t : Tr) (n : Nd) : Rd t n → Bd t [n]
  | bare (ps : List Tr) (ns : List Nd) : Rds ps ns → 2 ≤ ps.length → ps.length ≤ 10 → Bd (.mk .doo ps) ns
end
theorem Rds.len : ∀ {ts : List Tr} {ns : List Nd}, Rds ts ns → ns.length = ts.length
  | [], _, h => by cases h; rfl
  | t :: ts, _, h => by
    cases h with
    | cons _ n _ ns a b => exact congrArg (· + 1) (Rds.len b)
theorem Rds.app : ∀ {ts us : List Tr} {ns ms : List Nd}, Rds ts ns → Rds us ms → Rds (ts ++ us) (ns ++ ms)
  | [], _, _, _, h, k => by cases h; exact k
  | t :: ts, _, _, _, h, k => by
    cases h with
    | cons _ n _ ns a b => exact .cons _ _ _ _ a (Rds.app b k)
theorem Rds.one {t : Tr} {n : Nd} (h : Rd t n) : Rds [t] [n] := .cons _ _ _ _ h .nil
theorem Bd.len {t : Tr} {ns : List Nd} (h : Bd t ns) : 1 ≤ ns.length ∧ ns.length ≤ 10 := by
  cases h with
  | one => exact ⟨Nat.le_refl _, Nat.le_of_ble_eq_true rfl⟩
  | bare ps _ a b c => have := a.len; omega
/-! ### how deep nodes lie in one another -/
def dnH : Hd → Nat → Nat
  | .num _, _ => 0
  | .name _, _ => 0
  | .lit _, _ => 1
  | .fn _, d => max 1 d + 1
  | .bind _ _, d => d + 3
  | _, d => d + 1
mutual
def Tr.dn : Tr → Nat
  | .mk h ps => dnH h (Tr.dns ps)
def Tr.dns : List Tr → Nat
  | [] => 0
  | t :: ts => max t.dn (Tr.dns ts)
end
theorem dns_le {n : Nat} : ∀ {ps : List Tr}, Tr.dns ps ≤ n ↔ ∀ t ∈ ps, t.dn ≤ n
  | [] => by simp [Tr.dns]
  | t :: ts => by
    have := dns_le (n := n) (ps := ts)
    show max t.dn (Tr.dns ts) ≤ n ↔ _
    rw [Nat.max_le, this]
    simp
theorem dnH_mono {h : Hd} {a b : Nat} (k : a ≤ b) : dnH h a ≤ dnH h b := by
  cases h <;> simp only [dnH] <;> omega
theorem ndeps_le {n : Nat} : ∀ {ns : List Nd}, Nd.deps ns ≤ n ↔ ∀ m ∈ ns, m.dep ≤ n
  | [] => by simp [Nd.deps]
  | t :: ts => by
    have := ndeps_le (n := n) (ns := ts)
    show max t.dep (Nd.deps ts) ≤ n ↔ _
    rw [Nat.max_le, this]
    simp
theorem deps_words (xs : List Str) : Nd.deps (xs.map Nd.w) = 0 := Nat.le_zero.mp (ndeps_le.mpr fun m h => by
  obtain ⟨x, _, rfl⟩ := List.mem_map.mp h
  exact Nat.le_refl _)
theorem deps_rows {xs : List Str} {ms : List Nd} : Nd.deps (rowsN xs ms) ≤ Nd.deps ms + 1 := ndeps_le.mpr fun m h => by
  obtain ⟨r, hr, rfl⟩ := List.mem_map.mp h
  have hm := (List.of_mem_zip (show (r.1, r.2) ∈ xs.zip ms from hr)).2
  have := (ndeps_le (ns := ms)).mp (Nat.le_refl _) _ hm
  show max 0 (max r.2.dep 0) + 1 ≤ _
  omega
theorem dns_app (as bs : List Tr) : Tr.dns (as ++ bs) = max (Tr.dns as) (Tr.dns bs) := by
  induction as with
  | nil => show Tr.dns bs = max 0 _; omega
  | cons a as ih => show max a.dn (Tr.dns (as ++ bs)) = max (max a.dn (Tr.dns as)) _; rw [ih]; omega
theorem Rd.dn {t : Tr} {n : Nd} (h : Rd t n) : n.dep ≤ t.dn := by
  refine Rd.rec (motive_1 := fun t n _ => n.dep ≤ t.dn) (motive_2 := fun ts ns _ => Nd.deps ns ≤ Tr.dns ts) (motive_3 := fun t ns _ => Nd.deps ns ≤ t.dn) ?_ ?_ ?_ ?_ ?_ ?_ ?_ ?_ ?_ ?_ ?_ ?_ ?_ ?_ ?_ h
  · intro i; exact Nat.le_refl _
  · intro x; exact Nat.le_refl _
  · intro w _; exact Nat.zero_le _
  · exact Nat.le_refl _
  · intro w x t n _ ih
    show max 0 (max 0 (max n.dep 0)) + 1 ≤ max t.dn 0 + 1
    omega
  · intro xs t ns _ _ ih
    show max 0 (max (Nd.deps (xs.map Nd.w) + 1) (Nd.deps ns)) + 1 ≤ max 1 (max t.dn 0) + 1
    rw [deps_words]
    omega
  · intro w xs ps t ms ns _ _ _ _ i1 i2
    have := deps_rows (xs := xs) (ms := ms)
    show max 0 (max (Nd.deps (rowsN xs ms) + 1) (Nd.deps ns)) + 1 ≤ Tr.dns (ps ++ [t]) + 3
    rw [dns_app]
    show _ ≤ max (Tr.dns ps) (max t.dn 0) + 3
    omega
  · intro ps ns _ ih
    show max 0 (Nd.deps ns) + 1 ≤ Tr.dns ps + 1
    omega
  · intro ps ns _ ih
    show Nd.deps ns + 1 ≤ Tr.dns ps + 1
    omega
  · intro o ps ns _ ih
    show max 0 (Nd.deps ns) + 1 ≤ Tr.dns ps + 1
    omega
  · intro o ps ns _ ih
    show max 0 (Nd.deps ns) + 1 ≤ Tr.dns ps + 1
    omega
  · exact Nat.le_refl _
  · intro t n ts ns _ _ i1 i2
    show max n.dep (Nd.deps ns) ≤ max t.dn (Tr.dns ts)
    omega
  · intro t n _ ih
    show max n.dep 0 ≤ t.dn
    omega
  · intro ps ns _ _ _ ih
    show Nd.deps ns ≤ Tr.dns ps + 1
    omega
theorem Bd.dn {t : Tr} {ns : List Nd} (h : Bd t ns) : Nd.deps ns ≤ t.dn := by
  cases h with
  | one t n a => show max n.dep 0 ≤ t.dn; have := a.dn; omega
  | bare ps ns a b c =>
    have : ∀ {ts : List Tr} {ns : List Nd}, Rds ts ns → Nd.deps ns ≤ Tr.dns ts := fun {ts} => by
      induction ts with
      | nil => intro ns h; cases h; exact Nat.le_refl _
      | cons t ts ih =>
        intro ns h
        cases h with
        | cons _ n _ ns a b =>
          have := a.dn
          have := ih b
          show max n.dep (Nd.deps ns) ≤ max t.dn (Tr.dns ts)
          omega
    have := this a
    show Nd.deps ns ≤ Tr.dns ps + 1
    omega
/-! ### numbers as words -/
theorem num_cs (i : Int) : cs (numS i) = (if i < 0 then [45] else []) ++ TL.numL i.natAbs := by
  cases i with
  | ofNat n =>
    have : ¬ (Int.ofNat n < 0) := by have : (0 : Int) ≤ Int.ofNat n := Int.natCast_nonneg n; omega
    rw [if_neg this]
    exact TL.tl_num n
  | negSucc n =>
    rw [if_pos (Int.negSucc_lt_zero n)]
    show _ = 45 :: TL.numL (n + 1)
    rw [← TL.tl_num (n + 1)]
    show (Str.ofString (toString (Int.negSucc n))).cps.toList = 45 :: (Str.ofString (toString (((n + 1 : Nat)) : Int))).cps.toList
    have e1 : toString (Int.negSucc n) = "-" ++ Nat.repr (n + 1) := rfl
    have e2 : toString (((n + 1 : Nat)) : Int) = Nat.repr (n + 1) := rfl
    rw [e1, e2, Str.ofString_eq_toList, Str.ofString_eq_toList, String.toList_append]
    rfl
theorem num_has (i : Int) : ∃ c ∈ cs (numS i), 48 ≤ c ∧ c ≤ 57 := by
  rw [num_cs]
  have ne := TL.numL_ne i.natAbs
  cases e : TL.numL i.natAbs with
  | nil => exact absurd e ne
  | cons c r => exact ⟨c, List.mem_append.mpr (.inr List.mem_cons_self), TL.numL_digits i.natAbs c (by rw [e]; exact List.mem_cons_self)⟩
theorem num_no {i : Int} {s : Str} (h : (cs s).all (fun c => decide (c < 48 ∨ 57 < c)) = true) : numS i ≠ s := by
  rintro rfl
  obtain ⟨c, m, h1, h2⟩ := num_has i
  have := of_decide_eq_true (List.all_eq_true.mp h c m)
  omega
theorem num_len {i : Int} (h : i.natAbs ≤ 1000000000) : (numS i).length ≤ 11 := by
  rw [len_cs]
  exact (cs_num i).2.2 h
theorem num_wd (i : Int) : wdOk (numS i) := by
  refine ⟨(cs_num i).1, fun c m => ?_⟩
  have := (cs_num i).2.1 c m
  have hs : sep c = false := by
    unfold sep
    have h1 : c ≠ 32 ∧ c ≠ 10 ∧ c ≠ 40 ∧ c ≠ 41 := by omega
    simp [h1]
  exact ⟨hs, by omega, by omega⟩
theorem nm_wd {x : Str} (h : nmOk x) : wdOk x := by
  obtain ⟨_, _, ⟨c, r, e, _⟩, al, _⟩ := h
  refine ⟨(by rw [e]; exact fun z => by cases z), fun c m => ?_⟩
  have := al c m
  have hs : sep c = false := by
    unfold sep
    have h1 : c ≠ 32 ∧ c ≠ 10 ∧ c ≠ 40 ∧ c ≠ 41 := by omega
    simp [h1]
  exact ⟨hs, by omega, by omega⟩
def headW : List Str := ["fn", "let", "rec", "set", "if", "do", "keep", "once", "take", "mark", "wind", "show", "ask", "+", "-", "*", "quot", "rem", "<", "=", "same?", "pair", "left!", "right!", "left", "right", "pair?", "none?", "rest?", "fun?"]
theorem nm_head {x : Str} (h : nmOk x) : x ∉ headW := by
  obtain ⟨_, _, ⟨c, r, e, h1, h2⟩, al, nk⟩ := h
  intro m
  have key : ∀ y ∈ headW, y ∈ keptW ∨ ¬ ((cs y).all fun c => decide ((97 ≤ c ∧ c ≤ 122) ∨ (48 ≤ c ∧ c ≤ 57) ∨ c = 45)) = true ∨ (cs y).headD 0 < 97 := by decide +kernel
  rcases key x m with z | z | z
  · exact nk z
  · exact z (List.all_eq_true.mpr fun c m => decide_eq_true (al c m))
  · rw [e] at z
    have z' : c < 97 := z
    omega
theorem fun_head : ∀ w ∈ funW, w ∈ headW := by decide +kernel
theorem num_head (i : Int) : numS i ∉ headW := fun m => by
  have key : ∀ y ∈ headW, (cs y).all (fun c => decide (c < 48 ∨ 57 < c)) = true := by decide +kernel
  exact num_no (key _ m) rfl
theorem cons_head : ∀ w ∈ consW, w ∉ headW := by decide +kernel
/-- a word that is read as a tree -/
theorem rd_word {t : Tr} {s : Str} (h : Rd t (.w s)) (g : t.rg) : s ∉ headW := by
  cases h with
  | num i => exact num_head i
  | name x => exact nm_head (show nmOk s from g.1)
  | lit w m => exact cons_head _ m
/-! ### how many funs -/
def fst : List Nd → Option Str
  | .w s :: _ => some s
  | _ => none
def fun1 (ns : List Nd) : Nat := match fst ns with
  | some s => if s ∈ funW then 1 else 0
  | none => 0
mutual
def Nd.funs : Nd → Nat
  | .w _ => 0
  | .l ns => fun1 ns + Nd.funss ns
def Nd.funss : List Nd → Nat
  | [] => 0
  | n :: ns => n.funs + Nd.funss ns
end
def fwH : Hd → Nat
  | .fn _ => 1
  | .one w _ => if w = "take" then 1 else 0
  | .plain w => if w = "wind" then 1 else 0
  | _ => 0
mutual
def Tr.fw : Tr → Nat
  | .mk h ps => fwH h + Tr.fws ps
def Tr.fws : List Tr → Nat
  | [] => 0
  | t :: ts => t.fw + Tr.fws ts
end
theorem fws_app (as bs : List Tr) : Tr.fws (as ++ bs) = Tr.fws as + Tr.fws bs := by
  induction as with
  | nil => show Tr.fws bs = 0 + Tr.fws bs; omega
  | cons a as ih => show a.fw + Tr.fws (as ++ bs) = a.fw + Tr.fws as + _; rw [ih]; omega
theorem fun1_no {ns : List Nd} (h : ∀ s, fst ns = some s → s ∉ funW) : fun1 ns = 0 := by
  unfold fun1
  cases e : fst ns with
  | none => rfl
  | some s => exact if_neg (h s e)
theorem funs_words {xs : List Str} : Nd.funss (xs.map Nd.w) = 0 := by
  induction xs with
  | nil => rfl
  | cons x xs ih => show 0 + Nd.funss (xs.map Nd.w) = 0; omega
theorem funs_rows : ∀ {xs : List Str} {ms : List Nd}, (∀ x ∈ xs, nmOk x) → Nd.funss (rowsN xs ms) ≤ Nd.funss ms
  | [], _, _ => Nat.zero_le _
  | _ :: _, [], _ => Nat.zero_le _
  | x :: xs, m :: ms, h => by
    have ih := funs_rows (xs := xs) (ms := ms) fun y my => h y (List.mem_cons_of_mem _ my)
    have hx : fun1 [.w x, m] = 0 := fun1_no fun s e => by
      cases e
      exact fun z => nm_head (h x List.mem_cons_self) (fun_head _ z)
    show fun1 [.w x, m] + (0 + (m.funs + 0)) + Nd.funss (rowsN xs ms) ≤ m.funs + Nd.funss ms
    omega
theorem Rd.fw {t : Tr} {n : Nd} (h : Rd t n) : t.ok → t.rg → n.funs ≤ t.fw := by
  refine Rd.rec (motive_1 := fun t n _ => t.ok → t.rg → n.funs ≤ t.fw) (motive_2 := fun ts ns _ => Tr.oks ts → Tr.rgs ts → Nd.funss ns ≤ Tr.fws ts) (motive_3 := fun t ns _ => t.ok → t.rg → Nd.funss ns ≤ t.fw) ?_ ?_ ?_ ?_ ?_ ?_ ?_ ?_ ?_ ?_ ?_ ?_ ?_ ?_ ?_ h
  · intro i _ _; exact Nat.zero_le _
  · intro x _ _; exact Nat.zero_le _
  · intro w _ _ _; exact Nat.zero_le _
  · intro _ _
    have : fun1 [.w "ask"] = 0 := fun1_no fun s e => by cases e; decide +kernel
    show fun1 [.w "ask"] + (0 + 0) ≤ 0 + 0
    omega
  · intro w x t n _ ih o g
    have i1 := ih o.2.2.1 g.2.2.1
    have e : fun1 [.w w, .w x, n] ≤ fwH (.one w x) := by
      show (if w ∈ funW then 1 else 0) ≤ (if w = "take" then 1 else 0)
      have key : ∀ w ∈ oneW, w ∈ funW → w = "take" := by decide +kernel
      by_cases q : w ∈ funW
      · rw [if_pos q, if_pos (key w o.1.2.1 q)]; exact Nat.le_refl _
      · rw [if_neg q]; exact Nat.zero_le _
    show fun1 [.w w, .w x, n] + (0 + (0 + (n.funs + 0))) ≤ fwH (.one w x) + (t.fw + 0)
    omega
  · intro xs t ns _ _ ih o g
    have i1 := ih o.2.2.1 g.2.2.1
    have e : fun1 (.w "fn" :: .l (xs.map Nd.w) :: ns) = 1 := by show (if ("fn" : Str) ∈ funW then 1 else 0) = 1; exact if_pos (by decide +kernel)
    have e2 : fun1 (xs.map Nd.w) = 0 := fun1_no fun s e => by
      cases xs with
      | nil => cases e
      | cons x xs => cases e; exact fun z => nm_head (g.1.2 _ List.mem_cons_self) (fun_head _ z)
    show fun1 (.w "fn" :: .l (xs.map Nd.w) :: ns) + (0 + ((fun1 (xs.map Nd.w) + Nd.funss (xs.map Nd.w)) + Nd.funss ns)) ≤ 1 + (t.fw + 0)
    rw [e, e2, funs_words]
    omega
  · intro w xs ps t ms ns _ _ _ _ i1 i2 o g
    have oo := oks_iff.mp o.2.2
    have gg := rgs_iff.mp g.2.2
    have j1 := i1 (oks_iff.mpr fun u m => oo u (List.mem_append.mpr (.inl m))) (rgs_iff.mpr fun u m => gg u (List.mem_append.mpr (.inl m)))
    have j2 := i2 (oo t (List.mem_append.mpr (.inr List.mem_cons_self))) (gg t (List.mem_append.mpr (.inr List.mem_cons_self)))
    have e : fun1 (.w w :: .l (rowsN xs ms) :: ns) = 0 := if_neg (by
      have key : ∀ w ∈ bindW, w ∉ funW := by decide +kernel
      exact key w o.1.2.1)
    have e2 : fun1 (rowsN xs ms) = 0 := fun1_no fun s e => by
      cases xs with
      | nil => cases e
      | cons x xs => cases ms with
        | nil => cases e
        | cons m ms => cases e
    have j3 := funs_rows (ms := ms) g.1.2.2
    show fun1 (.w w :: .l (rowsN xs ms) :: ns) + (0 + ((fun1 (rowsN xs ms) + Nd.funss (rowsN xs ms)) + Nd.funss ns)) ≤ 0 + Tr.fws (ps ++ [t])
    rw [e, e2, fws_app]
    show _ ≤ 0 + (Tr.fws ps + (t.fw + 0))
    omega
  · intro ps ns _ ih o g
    have i1 := ih o.2.2 g.2.2
    have e : fun1 (.w "do" :: ns) = 0 := by show (if ("do" : Str) ∈ funW then 1 else 0) = 0; exact if_neg (by decide +kernel)
    show fun1 (.w "do" :: ns) + (0 + Nd.funss ns) ≤ 0 + Tr.fws ps
    omega
  · intro ps ns hr ih o g
    have i1 := ih o.2.2 g.2.2
    have e : fun1 ns = 0 := fun1_no fun s e => by
      cases hr with
      | nil => cases e
      | cons t n ts ns a b => cases n with
        | l ms => cases e
        | w s' => cases e; exact fun z => rd_word a (g.2.2.1) (fun_head _ z)
    show fun1 ns + Nd.funss ns ≤ 0 + Tr.fws ps
    omega
  · intro w ps ns _ ih o g
    have i1 := ih o.2.2 g.2.2
    have e : fun1 (.w w :: ns) = 0 := if_neg (by
      have k2 : ∀ w ∈ op2W, w ∉ funW := by decide +kernel
      have k1 : ∀ w ∈ op1W, w ∉ funW := by decide +kernel
      rcases g.1 with z | z
      · exact k2 w z.1
      · exact k1 w z.1)
    show fun1 (.w w :: ns) + (0 + Nd.funss ns) ≤ 0 + Tr.fws ps
    omega
  · intro w ps ns _ ih o g
    have i1 := ih o.2.2 g.2.2
    have e : fun1 (.w w :: ns) ≤ fwH (.plain w) := by
      show (if w ∈ funW then 1 else 0) ≤ (if w = "wind" then 1 else 0)
      have key : ∀ w ∈ plainW, w ∈ funW → w = "wind" := by decide +kernel
      by_cases q : w ∈ funW
      · rw [if_pos q, if_pos (key w o.1 q)]; exact Nat.le_refl _
      · rw [if_neg q]; exact Nat.zero_le _
    show fun1 (.w w :: ns) + (0 + Nd.funss ns) ≤ fwH (.plain w) + Tr.fws ps
    omega
  · intro _ _; exact Nat.zero_le _
  · intro t n ts ns _ _ i1 i2 o g
    have := i1 o.1 g.1
    have := i2 o.2 g.2
    show n.funs + Nd.funss ns ≤ t.fw + Tr.fws ts
    omega
  · intro t n _ ih o g
    have := ih o g
    show n.funs + 0 ≤ t.fw
    omega
  · intro ps ns _ _ _ ih o g
    have := ih o.2.2 g.2.2
    show Nd.funss ns ≤ 0 + Tr.fws ps
    omega
/-! ### texts that lie one behind the other -/
def sepSt (r : List Nat) : Prop := r = [] ∨ ∃ c r', r = c :: r' ∧ sep c = true
/-- the text lays the nodes out, whatever follows -/
def LayN (l : List Nat) (ns : List Nd) : Prop := ∀ r ms, sepSt r → Lays r ms → Lays (l ++ r) (ns ++ ms)
theorem blank_app {a b : List Nat} (h : blank a) (k : blank b) : blank (a ++ b) := fun c m => (List.mem_append.mp m).elim (h c) (k c)
theorem lays_blank {b r : List Nat} {ms : List Nd} (hb : blank b) (h : Lays r ms) : Lays (b ++ r) ms := by
  cases h with
  | nil k => exact .nil (blank_app hb k)
  | word k a c d => rw [← List.append_assoc]; exact .word (blank_app hb k) a c d
  | list k a d => rw [← List.append_assoc]; exact .list (blank_app hb k) a d
theorem sep_blank {b r : List Nat} (hb : blank b) (h : sepSt r) : sepSt (b ++ r) := by
  cases b with
  | nil => exact h
  | cons c b => exact .inr ⟨c, b ++ r, rfl, by rcases hb c List.mem_cons_self with rfl | rfl <;> decide⟩
theorem LayN.nil : LayN [] [] := fun r ms _ h => h
theorem LayN.word {s : Str} (h : wdOk s) : LayN (cs s) [.w s] := fun r ms hs hr => .word (b := []) (fun _ m => by cases m) h hs hr
theorem LayN.gap {l l' g : List Nat} {ns ns' : List Nd} (h : LayN l ns) (h' : LayN l' ns') (hg : blank g) (ne : g ≠ []) : LayN (l ++ (g ++ l')) (ns ++ ns') := fun r ms hs hr => by
  have z := h' r ms hs hr
  have e : l ++ (g ++ l') ++ r = l ++ (g ++ (l' ++ r)) := by simp
  rw [e, List.append_assoc]
  refine h _ _ ?_ (lays_blank hg z)
  cases g with
  | nil => exact absurd rfl ne
  | cons c g => exact .inr ⟨c, _, rfl, by rcases hg c List.mem_cons_self with rfl | rfl <;> decide⟩
theorem LayN.lays {l : List Nat} {ns : List Nd} (h : LayN l ns) : Lays l ns := by
  have := h [] [] (.inl rfl) (.nil fun _ m => by cases m)
  rwa [List.append_nil, List.append_nil] at this
theorem LayN.list {l : List Nat} {ns : List Nd} (h : LayN l ns) : LayN (40 :: (l ++ [41])) [.l ns] := fun r ms _ hr => by
  have := Lays.list (b := []) (fun _ m => by cases m) h.lays hr
  have e : 40 :: (l ++ [41]) ++ r = [] ++ (40 :: (l ++ (41 :: r))) := by simp
  rw [e]
  exact this
theorem LayN.tail {l b : List Nat} {ns : List Nd} (h : LayN l ns) (hb : blank b) : Lays (l ++ b) ns := by
  have := h b [] (by rw [← List.append_nil b]; exact sep_blank hb (.inl rfl)) (.nil hb)
  rwa [List.append_nil] at this
theorem sp_blank : blank [32] := fun c m => .inl (List.mem_singleton.mp m)
theorem join_cs {x y : Str} {r : List Str} : cs (Str.join " " (x :: y :: r)) = cs x ++ ([32] ++ cs (Str.join " " (y :: r))) := by
  have e : Str.join " " (x :: y :: r) = x ++ (" " : Str) ++ Str.join " " (y :: r) := rfl
  rw [e, cs_app, cs_app, List.append_assoc]
  rfl
inductive LayNs : List Str → List Nd → Prop
  | nil : LayNs [] []
  | cons {s : Str} {n : Nd} {ss : List Str} {ns : List Nd} : LayN (cs s) [n] → LayNs ss ns → LayNs (s :: ss) (n :: ns)
theorem LayNs.join : ∀ {ss : List Str} {ns : List Nd}, LayNs ss ns → LayN (cs (Str.join " " ss)) ns
  | [], _, h => by cases h; exact LayN.nil
  | [s], _, h => by
    cases h with
    | cons a b => cases b; exact a
  | s :: s2 :: ss, _, h => by
    cases h with
    | cons a b =>
      have := LayNs.join b
      rw [join_cs]
      exact LayN.gap a this sp_blank (fun z => by cases z)
theorem LayNs.words : ∀ {xs : List Str}, (∀ x ∈ xs, wdOk x) → LayNs xs (xs.map Nd.w)
  | [], _ => .nil
  | x :: xs, h => .cons (.word (h x List.mem_cons_self)) (LayNs.words fun y m => h y (List.mem_cons_of_mem _ m))
/-- brackets round a text -/
theorem LayN.brk {s : Str} {ns : List Nd} (h : LayN (cs s) ns) : LayN (cs ((("(" : Str) ++ s) ++ (")" : Str))) [.l ns] := by
  have e : cs ((("(" : Str) ++ s) ++ (")" : Str)) = 40 :: (cs s ++ [41]) := by
    rw [cs_app, cs_app]
    show [40] ++ cs s ++ [41] = _
    simp
  rw [e]
  exact h.list
end Cm

set_option linter.all false
/-! texts cut at a sign; words that are numbers -/
namespace Cm
open PySem L2 PySem.Spec PyProof.Rows
def spL (c : Nat) : List Nat → List (List Nat)
  | [] => [[]]
  | d :: l => if d = c then [] :: spL c l else match spL c l with
    | [] => [[d]]
    | p :: r => (d :: p) :: r
theorem spL_ne (c : Nat) : ∀ l, spL c l ≠ []
  | [] => fun z => by cases z
  | d :: l => by
    show (if d = c then [] :: spL c l else match spL c l with
      | [] => [[d]]
      | p :: r => (d :: p) :: r) ≠ []
    split
    · exact fun z => by cases z
    · split <;> exact fun z => by cases z
theorem spL_no (c : Nat) : ∀ l, ∀ p ∈ spL c l, c ∉ p
  | [] => fun p m => by
    rw [List.mem_singleton.mp m]
    exact List.not_mem_nil
  | d :: l => by
    have ih := spL_no c l
    intro p m
    have m' : p ∈ (if d = c then [] :: spL c l else match spL c l with
      | [] => [[d]]
      | p :: r => (d :: p) :: r) := m
    split at m'
    · rcases List.mem_cons.mp m' with rfl | m'
      · exact List.not_mem_nil
      · exact ih p m'
    · rename_i hd
      split at m'
      · rw [List.mem_singleton.mp m']
        exact fun z => hd (List.mem_singleton.mp z).symm
      · rename_i q r e
        rcases List.mem_cons.mp m' with rfl | m'
        · intro z
          rcases List.mem_cons.mp z with z | z
          · exact hd z.symm
          · exact ih q (by rw [e]; exact List.mem_cons_self) z
        · exact ih p (by rw [e]; exact List.mem_cons_of_mem _ m')
theorem joinL_cons {y : List Nat} {p q : List Nat} {r : List (List Nat)} : TL.joinL y (p :: q :: r) = p ++ (y ++ TL.joinL y (q :: r)) := rfl
theorem joinL_spL (c : Nat) : ∀ l, TL.joinL [c] (spL c l) = l
  | [] => rfl
  | d :: l => by
    have ih := joinL_spL c l
    show TL.joinL [c] (if d = c then [] :: spL c l else match spL c l with
      | [] => [[d]]
      | p :: r => (d :: p) :: r) = d :: l
    split
    · rename_i hd
      subst hd
      cases e : spL d l with
      | nil => exact absurd e (spL_ne d l)
      | cons p r =>
        rw [joinL_cons, ← e, ih]
        rfl
    · cases e : spL c l with
      | nil => exact absurd e (spL_ne c l)
      | cons p r =>
        rw [e] at ih
        cases r with
        | nil =>
          show d :: p = d :: l
          have : p = l := ih
          rw [this]
        | cons q r =>
          show TL.joinL [c] ((d :: p) :: q :: r) = d :: l
          rw [joinL_cons] at ih ⊢
          rw [List.cons_append, ih]
/-- a text cut at the sign c -/
def splS (c : Nat) (x : Str) : List Str := (spL c (cs x)).map ofL
theorem splS_no {c : Nat} {x p : Str} (m : p ∈ splS c x) : c ∉ cs p := by
  obtain ⟨l, ml, rfl⟩ := List.mem_map.mp m
  rw [cs_ofL]
  exact spL_no c _ l ml
theorem splS_ne (c : Nat) (x : Str) : splS c x ≠ [] := fun z => spL_ne c (cs x) (List.map_eq_nil_iff.mp z)
theorem tl_cs (x : Str) : TL.tl x = cs x := rfl
theorem splS_join {c : Nat} {y : Str} (ey : cs y = [c]) (x : Str) : Str.join y (splS c x) = x := by
  apply cs_inj
  have e := TL.tl_join y (splS c x)
  rw [show TL.tl y = [c] from ey] at e
  rw [show cs (Str.join y (splS c x)) = TL.tl (Str.join y (splS c x)) from rfl, e]
  have e2 : (splS c x).map TL.tl = spL c (cs x) := by
    unfold splS
    rw [List.map_map]
    have : TL.tl ∘ ofL = id := by funext l; exact cs_ofL l
    rw [this, List.map_id]
  rw [e2, joinL_spL]
theorem split_eq {c : Nat} {y : Str} (ey : cs y = [c]) (hc : c < 256) (x : Str) : Txt.split x y = splS c x := by
  have hk : y.cps.all (· < 256) = true := by
    rw [Array.all_eq_true']
    intro d m
    have : d ∈ cs y := Array.mem_toList_iff.mpr m
    rw [ey, List.mem_singleton] at this
    subst this
    exact decide_eq_true hc
  have := TL.split_join (y := y) (s := c) (S := []) ey hk (splS_ne c x) fun p m => splS_no m
  rw [TL.join_eq, splS_join ey] at this
  exact this
/-- a joined text, cut -/
theorem splS_of {c : Nat} {y : Str} (ey : cs y = [c]) (hc : c < 256) {ps : List Str} (ne : ps ≠ []) (h : ∀ p ∈ ps, c ∉ cs p) : splS c (Str.join y ps) = ps := by
  rw [← split_eq ey hc]
  have hk : y.cps.all (· < 256) = true := by
    rw [Array.all_eq_true']
    intro d m
    have : d ∈ cs y := Array.mem_toList_iff.mpr m
    rw [ey, List.mem_singleton] at this
    subst this
    exact decide_eq_true hc
  have := TL.split_join (y := y) (s := c) (S := []) ey hk ne h
  rwa [TL.join_eq] at this
theorem spL_len (c : Nat) : ∀ l, (spL c l).length ≤ l.length + 1
  | [] => Nat.le_refl _
  | d :: l => by
    have ih := spL_len c l
    show (if d = c then [] :: spL c l else match spL c l with
      | [] => [[d]]
      | p :: r => (d :: p) :: r).length ≤ l.length + 1 + 1
    split
    · rw [List.length_cons]
      omega
    · cases e : spL c l with
      | nil => exact absurd e (spL_ne c l)
      | cons p r =>
        rw [e, List.length_cons] at ih
        show r.length + 1 ≤ _
        omega
theorem splS_len (c : Nat) (x : Str) : (splS c x).length ≤ x.length + 1 := by
  unfold splS
  rw [List.length_map, len_cs]
  exact spL_len c _
theorem joinL_sum (y : List Nat) : ∀ ps : List (List Nat), (ps.map List.length).sum ≤ (TL.joinL y ps).length
  | [] => Nat.zero_le _
  | [p] => by show p.length + 0 ≤ p.length; omega
  | p :: q :: r => by
    have ih := joinL_sum y (q :: r)
    rw [joinL_cons, List.length_append, List.length_append, List.map_cons, List.sum_cons]
    omega
theorem splS_sum (c : Nat) (x : Str) : ((splS c x).map (·.length)).sum ≤ x.length := by
  have h := joinL_sum [c] (spL c (cs x))
  rw [joinL_spL] at h
  have e : (splS c x).map (·.length) = (spL c (cs x)).map List.length := by
    unfold splS
    rw [List.map_map]
    have : (fun s : Str => s.length) ∘ ofL = List.length := by
      funext l
      show (ofL l).length = l.length
      rw [len_cs, cs_ofL]
    rw [this]
  rw [e, len_cs]
  exact h
theorem splS_each {c : Nat} {x p : Str} (m : p ∈ splS c x) : p.length ≤ x.length := by
  have h := splS_sum c x
  have : p.length ≤ ((splS c x).map (·.length)).sum := by
    have key : ∀ {l : List Str}, p ∈ l → p.length ≤ (l.map (·.length)).sum := fun {l} => by
      induction l with
      | nil => intro m; cases m
      | cons a l ih =>
        intro m
        rw [List.map_cons, List.sum_cons]
        rcases List.mem_cons.mp m with rfl | m
        · omega
        · have := ih m
          omega
    exact key m
  omega
/-! ### numbers -/
def dig (c : Nat) : Bool := decide (48 ≤ c ∧ c ≤ 57)
def dval (l : List Nat) : Nat := NumText.digitsVal l
theorem dval_snoc (l : List Nat) (d : Nat) : dval (l ++ [d]) = dval l * 10 + (d - 48) := by
  unfold dval NumText.digitsVal
  rw [List.foldl_append]
  rfl
theorem dval_pos : ∀ (l : List Nat) (c : Nat) (r : List Nat), l = c :: r → dig c = true → c ≠ 48 → 1 ≤ dval l := by
  intro l c r e hc hn
  subst e
  have key : ∀ (r : List Nat) (a : Nat), 1 ≤ a → 1 ≤ r.foldl (fun acc c => acc * 10 + (c - 48)) a := by
    intro r
    induction r with
    | nil => intro a h; exact h
    | cons d r ih =>
      intro a h
      show 1 ≤ r.foldl (fun acc c => acc * 10 + (c - 48)) (a * 10 + (d - 48))
      exact ih _ (by omega)
  have h1 := of_decide_eq_true hc
  show 1 ≤ r.foldl (fun acc c => acc * 10 + (c - 48)) (0 * 10 + (c - 48))
  exact key r _ (by omega)
theorem snoc_ind {α : Type} {P : List α → Prop} (h0 : P []) (hs : ∀ l x, P l → P (l ++ [x])) (l : List α) : P l := by
  have key : ∀ n, ∀ l : List α, l.length = n → P l := by
    intro n
    induction n with
    | zero => intro l e; rw [List.length_eq_zero_iff.mp e]; exact h0
    | succ n ih =>
      intro l e
      have ne : l ≠ [] := fun z => by rw [z] at e; cases e
      rw [← List.dropLast_concat_getLast ne]
      exact hs _ _ (ih _ (by rw [List.length_dropLast, e]; rfl))
  exact key l.length l rfl
/-- digits without a zero ahead are the number's own -/
theorem numL_back : ∀ l : List Nat, l ≠ [] → (∀ c ∈ l, dig c = true) → (l.head? = some 48 → l = [48]) → TL.numL (dval l) = l := by
  intro l
  induction l using snoc_ind with
  | h0 => intro h; exact absurd rfl h
  | hs l d ih =>
    intro _ al hz
    have hd := of_decide_eq_true (al d (List.mem_append.mpr (.inr List.mem_cons_self)))
    rw [dval_snoc]
    cases l with
    | nil =>
      show TL.numL (dval [] * 10 + (d - 48)) = [d]
      have e : dval [] * 10 + (d - 48) = d - 48 := by show 0 * 10 + _ = _; omega
      rw [e, TL.numL_lt (by omega)]
      congr 1
      omega
    | cons c r =>
      have hc := al c (List.mem_append.mpr (.inl List.mem_cons_self))
      have n48 : c ≠ 48 := fun z => by
        have := hz (by rw [z]; rfl)
        cases r with
        | nil => cases this
        | cons _ _ => cases this
      have hp := dval_pos (c :: r) c r rfl hc n48
      have i2 := ih (fun z => by cases z) (fun x m => al x (List.mem_append.mpr (.inl m))) (fun z => absurd (Option.some.inj z) n48)
      rw [TL.numL_step (by omega)]
      have e1 : (dval (c :: r) * 10 + (d - 48)) / 10 = dval (c :: r) := by omega
      have e2 : (dval (c :: r) * 10 + (d - 48)) % 10 = d - 48 := by omega
      rw [e1, e2, i2]
      congr 2
      omega
/-- signs that are a number without a zero ahead, of at most k signs -/
def canon (k : Nat) (l : List Nat) : Bool := !l.isEmpty && (decide (l.length ≤ k) && (l.all dig && (decide (l.head? ≠ some 48) || decide (l = [48]))))
theorem canon_iff {k : Nat} {l : List Nat} : canon k l = true ↔ l ≠ [] ∧ l.length ≤ k ∧ (∀ c ∈ l, dig c = true) ∧ (l.head? = some 48 → l = [48]) := by
  unfold canon
  simp only [Bool.and_eq_true, Bool.or_eq_true, decide_eq_true_eq, Bool.not_eq_true', List.all_eq_true, List.isEmpty_eq_false_iff]
  constructor
  · rintro ⟨a, b, c, d⟩
    exact ⟨a, b, c, fun z => d.resolve_left (fun q => q z)⟩
  · rintro ⟨a, b, c, d⟩
    refine ⟨a, b, c, ?_⟩
    by_cases z : l.head? = some 48
    · exact .inr (d z)
    · exact .inl z
def numOf (s : Str) : Option Nat := if canon 5 (cs s) = true then some (dval (cs s)) else none
theorem numS_nat (n : Nat) : cs (numS (n : Nat)) = TL.numL n := TL.tl_num n
theorem canon_num {n k : Nat} (hk : 0 < k) (h : n < 10 ^ k) : canon k (TL.numL n) = true := by
  refine canon_iff.mpr ⟨TL.numL_ne n, TL.numL_len hk h, fun c m => decide_eq_true (TL.numL_digits n c m), fun z => ?_⟩
  by_cases q : n = 0
  · rw [q]; rfl
  · exfalso
    have : ∀ (m : Nat), m ≠ 0 → (TL.numL m).head? ≠ some 48 := by
      intro m
      induction m using Nat.strongRecOn with
      | _ m ih =>
        intro h0 e
        by_cases h : m < 10
        · rw [TL.numL_lt h] at e
          have : 48 + m = 48 := by simpa using e
          omega
        · rw [TL.numL_step (by omega)] at e
          have h1 := ih (m / 10) (by omega) (by omega)
          have h2 := TL.numL_ne (m / 10)
          cases q : TL.numL (m / 10) with
          | nil => exact h2 q
          | cons c r =>
            rw [q] at e h1
            exact h1 (by simpa using e)
    exact this n q z
theorem numOf_num {n : Nat} (h : n < 100000) : numOf (numS (n : Nat)) = some n := by
  unfold numOf
  rw [numS_nat, if_pos (canon_num (k := 5) (by decide) h)]
  exact congrArg some (TL.numL_val n)
theorem dval_lt (l : List Nat) (h : ∀ c ∈ l, dig c = true) : dval l < 10 ^ l.length := by
  induction l using snoc_ind with
  | h0 => decide
  | hs l d ih =>
    have hd := of_decide_eq_true (h d (List.mem_append.mpr (.inr List.mem_cons_self)))
    have := ih fun c m => h c (List.mem_append.mpr (.inl m))
    rw [dval_snoc, List.length_append, List.length_singleton, Nat.pow_succ]
    omega
theorem numOf_inv {s : Str} {n : Nat} (h : numOf s = some n) : s = numS (n : Nat) ∧ n < 100000 := by
  unfold numOf at h
  split at h
  · rename_i c
    cases h
    obtain ⟨a, b, d, e⟩ := canon_iff.mp c
    refine ⟨cs_inj ?_, ?_⟩
    · rw [numS_nat, numL_back _ a d e]
    · have h1 := dval_lt _ d
      have h2 : 10 ^ (cs s).length ≤ 10 ^ 5 := Nat.pow_le_pow_right (by decide) b
      have h3 : (10 : Nat) ^ 5 = 100000 := by decide
      omega
  · cases h
/-- a whole number within the reader's bounds -/
def valN (l : List Nat) : Option Nat := if canon 10 l = true ∧ dval l ≤ 1000000000 then some (dval l) else none
def valOf (s : Str) : Option Int := if (cs s).head? = some 45 then (if (cs s).drop 1 = [48] then none else (valN ((cs s).drop 1)).map fun n => -((n : Nat) : Int)) else (valN (cs s)).map fun n => ((n : Nat) : Int)
theorem valN_inv {l : List Nat} {n : Nat} (h : valN l = some n) : TL.numL n = l ∧ n ≤ 1000000000 := by
  unfold valN at h
  split at h
  · rename_i c
    cases h
    obtain ⟨a, b, d, e⟩ := canon_iff.mp c.1
    exact ⟨numL_back _ a d e, c.2⟩
  · cases h
theorem valN_num {n : Nat} (h : n ≤ 1000000000) : valN (TL.numL n) = some n := by
  have nv : dval (TL.numL n) = n := TL.numL_val n
  unfold valN
  rw [if_pos ⟨canon_num (k := 10) (by decide) (by omega), by rw [nv]; exact h⟩, nv]
theorem valOf_inv {s : Str} {i : Int} (h : valOf s = some i) : s = numS i ∧ i.natAbs ≤ 1000000000 := by
  unfold valOf at h
  by_cases q : (cs s).head? = some 45
  · rw [if_pos q] at h
    by_cases q0 : (cs s).drop 1 = [48]
    · rw [if_pos q0] at h
      cases h
    · rw [if_neg q0] at h
      obtain ⟨n, en, rfl⟩ := Option.map_eq_some_iff.mp h
      obtain ⟨a, b⟩ := valN_inv en
      have hs : cs s = 45 :: (cs s).drop 1 := by
        cases z : cs s with
        | nil => rw [z] at q; cases q
        | cons x r => rw [z] at q; cases q; rfl
      have n0 : n ≠ 0 := fun z => q0 (by rw [← a, z]; rfl)
      refine ⟨cs_inj ?_, by omega⟩
      rw [num_cs, if_pos (by omega), hs]
      have : (-((n : Nat) : Int)).natAbs = n := by omega
      rw [this, a]
      rfl
  · rw [if_neg q] at h
    obtain ⟨n, en, rfl⟩ := Option.map_eq_some_iff.mp h
    obtain ⟨a, b⟩ := valN_inv en
    refine ⟨cs_inj ?_, by omega⟩
    rw [num_cs, if_neg (by omega)]
    have : (((n : Nat) : Int)).natAbs = n := by omega
    rw [this, a]
    rfl
theorem valOf_num {i : Int} (h : i.natAbs ≤ 1000000000) : valOf (numS i) = some i := by
  unfold valOf
  have e := num_cs i
  by_cases q : i < 0
  · rw [if_pos q] at e
    have hd : (cs (numS i)).head? = some 45 := by rw [e]; rfl
    have dr : (cs (numS i)).drop 1 = TL.numL i.natAbs := by rw [e]; rfl
    have n0 : TL.numL i.natAbs ≠ [48] := fun z => by
      have := TL.numL_val i.natAbs
      rw [z] at this
      have e0 : NumText.digitsVal [48] = 0 := by decide
      omega
    rw [if_pos hd, dr, if_neg n0, valN_num h]
    show some (-((i.natAbs : Nat) : Int)) = some i
    congr 1
    omega
  · rw [if_neg q, List.nil_append] at e
    have hd : ¬ (cs (numS i)).head? = some 45 := fun z => by
      rw [e] at z
      cases w : TL.numL i.natAbs with
      | nil => exact TL.numL_ne _ w
      | cons c r =>
        rw [w] at z
        cases z
        have h1 := TL.numL_digits i.natAbs 45 (by rw [w]; exact List.mem_cons_self)
        have h2 : (48 : Nat) ≤ 45 := h1.1
        omega
    rw [if_neg hd, e, valN_num h]
    show some ((i.natAbs : Nat) : Int) = some i
    congr 1
    omega
end Cm

set_option linter.all false
/-! rows of a listing: how they are written, read, judged -/
namespace Cm
open PySem L2 PySem.Spec PyProof.Rows
inductive Sh | num | val | op | cells | pairs
deriving DecidableEq
inductive It5
  | n (k : Nat)
  | c (w : Str)
  | v (i : Int)
  | o (w : Str)
  | cs (ks : List Nat)
  | ps (xs : List (Nat × List Nat))
def shapeOf (w : Str) : Option (List Sh) :=
  if w = "value" then some [.num, .val] else if w = "copy" then some [.num, .num] else if w = "fun" then some [.num, .num, .cells] else if w = "op" then some [.num, .op, .cells]
  else if w = "show" then some [.num, .num] else if w = "ask" then some [.num] else if w = "rec" then some [.num, .pairs] else if w = "keep" then some [.num] else if w = "once" then some [.num] else if w = "mark" then some []
  else if w = "save" then some [.num] else if w = "unless" then some [.num, .num] else if w = "jump" then some [.num] else if w = "back" then some [.num] else if w = "call" then some [.num, .cells] else if w = "take" then some [.num]
  else if w = "wind" then some [.num, .num, .num] else none
def opsW : List Str := op2W ++ op1W
def numD (n : Nat) : PyData := .int (n : Nat)
def numsD (ks : List Nat) : PyData := .tuple (ks.map numD)
def pairD (p : Nat × List Nat) : PyData := .tuple [numD p.1, numsD p.2]
def It5.enc : It5 → PyData
  | .n k => numD k
  | .c w => .tuple [.str w]
  | .v i => .int i
  | .o w => .str w
  | .cs ks => numsD ks
  | .ps xs => .tuple (xs.map pairD)
structure Rw where
  w : Str
  its : List It5
def Rw.enc (r : Rw) : PyData := .tuple (.str r.w :: r.its.map It5.enc)
def nS (n : Nat) : Str := numS (n : Nat)
def pairW (p : Nat × List Nat) : List Str := nS p.1 :: nS p.2.length :: p.2.map nS
def It5.wds : It5 → List Str
  | .n k => [nS k]
  | .c w => [w]
  | .v i => [numS i]
  | .o w => [w]
  | .cs ks => ks.map nS
  | .ps xs => (xs.map pairW).flatten
def Rw.wds (r : Rw) : List Str := r.w :: (r.its.map It5.wds).flatten
/-! ### reading -/
def numsW : List Str → Option (List Nat)
  | [] => some []
  | w :: ws => match numOf w, numsW ws with
    | some n, some ns => some (n :: ns)
    | _, _ => none
def pairsF : Nat → List Nat → Option (List (Nat × List Nat))
  | _, [] => some []
  | 0, _ => none
  | _, [_] => none
  | f + 1, b :: k :: r => if r.length < k then none else match pairsF f (r.drop k) with
    | some ps => some ((b, r.take k) :: ps)
    | none => none
def pairsOf (ws : List Str) : Option (List (Nat × List Nat)) := match numsW ws with
  | none => none
  | some [] => none
  | some ns => pairsF ns.length ns
def itemOf : Sh → Str → Option It5
  | .op, w => if w ∈ opsW then some (.o w) else none
  | .num, w => (numOf w).map .n
  | _, w => if w ∈ consW then some (.c w) else (valOf w).map .v
def items : List Sh → List Str → Option (List It5 × List Str)
  | [], ws => some ([], ws)
  | .cells :: ss, ws => match numsW ws with
    | none => none
    | some ks => (items ss []).map fun (p : List It5 × List Str) => (.cs ks :: p.1, p.2)
  | .pairs :: ss, ws => match pairsOf ws with
    | none => none
    | some ks => (items ss []).map fun (p : List It5 × List Str) => (.ps ks :: p.1, p.2)
  | s :: ss, [] => none
  | s :: ss, w :: ws => match itemOf s w with
    | none => none
    | some i => (items ss ws).map fun (p : List It5 × List Str) => (i :: p.1, p.2)
def rowOf (w : Str) (ws : List Str) : Option Rw := match shapeOf w with
  | none => none
  | some ss => match items ss ws with
    | some (is, []) => some ⟨w, is⟩
    | _ => none
/-! ### what is read is written as it stood -/
theorem nums_inv : ∀ {ws : List Str} {ns : List Nat}, numsW ws = some ns → ns.map nS = ws ∧ ∀ n ∈ ns, n < 100000
  | [], ns, h => by cases h; exact ⟨rfl, fun _ m => by cases m⟩
  | w :: ws, ns, h => by
    have h' : (match numOf w, numsW ws with
      | some n, some ns => some (n :: ns)
      | _, _ => none) = some ns := h
    split at h'
    · rename_i n ms e1 e2
      cases h'
      obtain ⟨a, b⟩ := nums_inv e2
      obtain ⟨c, d⟩ := numOf_inv e1
      refine ⟨?_, fun x m => ?_⟩
      · rw [List.map_cons, a, c]
        rfl
      · rcases List.mem_cons.mp m with rfl | m
        · exact d
        · exact b x m
    · cases h'
theorem nums_num : ∀ {ns : List Nat}, (∀ n ∈ ns, n < 100000) → numsW (ns.map nS) = some ns
  | [], _ => rfl
  | n :: ns, h => by
    show (match numOf (nS n), numsW (ns.map nS) with
      | some n, some ns => some (n :: ns)
      | _, _ => none) = some (n :: ns)
    rw [show numOf (nS n) = some n from numOf_num (h n List.mem_cons_self), nums_num fun x m => h x (List.mem_cons_of_mem _ m)]
def pairN (p : Nat × List Nat) : List Nat := p.1 :: p.2.length :: p.2
theorem pairsF_inv : ∀ (f : Nat) {ns : List Nat} {ps : List (Nat × List Nat)}, pairsF f ns = some ps → (ps.map pairN).flatten = ns
  | f, [], ps, h => by
    have : some [] = some ps := by cases f <;> exact h
    cases this
    rfl
  | 0, a :: r, ps, h => by cases h
  | f + 1, [a], ps, h => by cases h
  | f + 1, b :: k :: r, ps, h => by
    have h' : (if r.length < k then none else match pairsF f (r.drop k) with
      | some ps => some ((b, r.take k) :: ps)
      | none => none) = some ps := h
    split at h'
    · cases h'
    · rename_i hk
      split at h'
      · rename_i qs e
        cases h'
        have ih := pairsF_inv f e
        show (b :: (r.take k).length :: r.take k) ++ (qs.map pairN).flatten = _
        rw [ih, List.length_take, Nat.min_eq_left (by omega)]
        show b :: k :: (r.take k ++ r.drop k) = _
        rw [List.take_append_drop]
      · cases h'
theorem pairsF_num : ∀ (ps : List (Nat × List Nat)) (f : Nat), ((ps.map pairN).flatten).length ≤ f → pairsF f (ps.map pairN).flatten = some ps
  | [], f, _ => by cases f <;> rfl
  | p :: ps, f, h => by
    have e : ((p :: ps).map pairN).flatten = p.1 :: p.2.length :: (p.2 ++ (ps.map pairN).flatten) := rfl
    rw [e] at h ⊢
    rw [List.length_cons, List.length_cons, List.length_append] at h
    cases f with
    | zero => omega
    | succ f =>
      have ih := pairsF_num ps f (by omega)
      show (if (p.2 ++ (ps.map pairN).flatten).length < p.2.length then none else match pairsF f ((p.2 ++ (ps.map pairN).flatten).drop p.2.length) with
        | some qs => some ((p.1, (p.2 ++ (ps.map pairN).flatten).take p.2.length) :: qs)
        | none => none) = some (p :: ps)
      rw [if_neg (by rw [List.length_append]; omega), List.drop_left, List.take_left, ih]
theorem pairN_words (ps : List (Nat × List Nat)) : ((ps.map pairN).flatten).map nS = (ps.map pairW).flatten := by
  induction ps with
  | nil => rfl
  | cons p ps ih =>
    show (pairN p ++ (ps.map pairN).flatten).map nS = pairW p ++ (ps.map pairW).flatten
    rw [List.map_append, ih]
    rfl
theorem pairsOf_inv {ws : List Str} {ps : List (Nat × List Nat)} (h : pairsOf ws = some ps) : (ps.map pairW).flatten = ws := by
  unfold pairsOf at h
  split at h
  · cases h
  · cases h
  · rename_i ns e2 e
    have := pairsF_inv _ h
    rw [← pairN_words, this]
    exact (nums_inv e).1
theorem pairsOf_num {ps : List (Nat × List Nat)} (ne : ps ≠ []) (h : ∀ n ∈ (ps.map pairN).flatten, n < 100000) : pairsOf (ps.map pairW).flatten = some ps := by
  unfold pairsOf
  rw [← pairN_words, nums_num h]
  cases e : (ps.map pairN).flatten with
  | nil =>
    cases ps with
    | nil => exact absurd rfl ne
    | cons p ps => cases e
  | cons a r =>
    show pairsF (a :: r).length (a :: r) = some ps
    rw [← e]
    exact pairsF_num ps _ (Nat.le_refl _)
theorem itemOf_inv {s : Sh} {w : Str} {i : It5} (h : itemOf s w = some i) : i.wds = [w] := by
  have last : ∀ {x : Option It5}, x = some i → x = (if w ∈ consW then some (.c w) else (valOf w).map .v) → i.wds = [w] := fun {x} e1 e2 => by
    rw [e1] at e2
    split at e2
    · cases e2; rfl
    · obtain ⟨j, ej, rfl⟩ := Option.map_eq_some_iff.mp e2.symm
      show [numS j] = [w]
      rw [(valOf_inv ej).1]
  cases s with
  | op =>
    have h' : (if w ∈ opsW then some (.o w) else none) = some i := h
    split at h'
    · cases h'; rfl
    · cases h'
  | num =>
    obtain ⟨n, en, rfl⟩ := Option.map_eq_some_iff.mp (show (numOf w).map It5.n = some i from h)
    show [nS n] = [w]
    rw [(numOf_inv en).1]
    rfl
  | val => exact last h rfl
  | cells => exact last h rfl
  | pairs => exact last h rfl
theorem items_inv : ∀ (ss : List Sh) {ws : List Str} {is : List It5} {l : List Str}, items ss ws = some (is, l) → (is.map It5.wds).flatten ++ l = ws
  | [], ws, is, l, h => by cases h; rfl
  | s :: ss, ws, is, l, h => by
    have step : ∀ {w : Str} {ws' : List Str}, (match itemOf s w with
        | none => none
        | some i => (items ss ws').map fun (p : List It5 × List Str) => (i :: p.1, p.2)) = some (is, l) → (is.map It5.wds).flatten ++ l = w :: ws' := fun {w ws'} e => by
      split at e
      · cases e
      · rename_i i ei
        obtain ⟨p, ep, e2⟩ := Option.map_eq_some_iff.mp e
        cases e2
        have ih := items_inv ss (show items ss ws' = some (p.1, p.2) from ep)
        show (i.wds ++ (p.1.map It5.wds).flatten) ++ p.2 = _
        rw [List.append_assoc, ih, itemOf_inv ei]
        rfl
    cases s with
    | cells =>
      have h' : (match numsW ws with
        | none => none
        | some ks => (items ss []).map fun (p : List It5 × List Str) => (It5.cs ks :: p.1, p.2)) = some (is, l) := h
      split at h'
      · cases h'
      · rename_i ks ek
        obtain ⟨p, ep, e2⟩ := Option.map_eq_some_iff.mp h'
        cases e2
        have ih := items_inv ss (show items ss [] = some (p.1, p.2) from ep)
        show (ks.map nS ++ (p.1.map It5.wds).flatten) ++ p.2 = ws
        rw [List.append_assoc, ih, List.append_nil]
        exact (nums_inv ek).1
    | pairs =>
      have h' : (match pairsOf ws with
        | none => none
        | some ks => (items ss []).map fun (p : List It5 × List Str) => (It5.ps ks :: p.1, p.2)) = some (is, l) := h
      split at h'
      · cases h'
      · rename_i ks ek
        obtain ⟨p, ep, e2⟩ := Option.map_eq_some_iff.mp h'
        cases e2
        have ih := items_inv ss (show items ss [] = some (p.1, p.2) from ep)
        show ((ks.map pairW).flatten ++ (p.1.map It5.wds).flatten) ++ p.2 = ws
        rw [List.append_assoc, ih, List.append_nil]
        exact pairsOf_inv ek
    | num =>
      cases ws with
      | nil => cases h
      | cons w ws => exact step h
    | val =>
      cases ws with
      | nil => cases h
      | cons w ws => exact step h
    | op =>
      cases ws with
      | nil => cases h
      | cons w ws => exact step h
theorem rowOf_inv {w : Str} {ws : List Str} {r : Rw} (h : rowOf w ws = some r) : r.wds = w :: ws ∧ r.w = w := by
  unfold rowOf at h
  split at h
  · cases h
  · rename_i ss es
    split at h
    · rename_i is e
      cases h
      have := items_inv ss e
      rw [List.append_nil] at this
      refine ⟨?_, rfl⟩
      show w :: (is.map It5.wds).flatten = _
      rw [this]
    · cases h
/-! ### what is written is read -/
def fitI : Sh → It5 → Prop
  | .num, .n k => k < 100000
  | .val, .c w => w ∈ consW
  | .val, .v i => i.natAbs ≤ 1000000000
  | .op, .o w => w ∈ opsW
  | .cells, .cs ks => ∀ k ∈ ks, k < 100000
  | .pairs, .ps xs => xs ≠ [] ∧ ∀ n ∈ (xs.map pairN).flatten, n < 100000
  | _, _ => False
def fits : List Sh → List It5 → Prop
  | [], [] => True
  | s :: ss, i :: is => fitI s i ∧ fits ss is
  | _, _ => False
/-- what takes all that is left stands last -/
def lastB : List Sh → Bool
  | [] => true
  | .cells :: ss => ss.isEmpty
  | .pairs :: ss => ss.isEmpty
  | _ :: ss => lastB ss
theorem items_fit : ∀ (ss : List Sh) (is : List It5), lastB ss = true → fits ss is → items ss (is.map It5.wds).flatten = some (is, [])
  | [], [], _, _ => rfl
  | [], _ :: _, _, h => h.elim
  | _ :: _, [], _, h => h.elim
  | s :: ss, i :: is, hl, h => by
    obtain ⟨h1, h2⟩ := (show fitI s i ∧ fits ss is from h)
    have step : ∀ w, i.wds = [w] → (match itemOf s w with
        | none => none
        | some j => (items ss (is.map It5.wds).flatten).map fun (p : List It5 × List Str) => (j :: p.1, p.2)) = (match itemOf s w with
        | none => none
        | some j => some (j :: is, [])) → lastB ss = true → True := fun _ _ _ _ => trivial
    cases s with
    | cells =>
      cases ss with
      | cons _ _ => cases hl
      | nil =>
        cases is with
        | cons _ _ => exact h2.elim
        | nil =>
          cases i with
          | cs ks =>
            show (match numsW ((ks.map nS) ++ []) with
              | none => none
              | some ks => (items [] []).map fun (p : List It5 × List Str) => (It5.cs ks :: p.1, p.2)) = _
            rw [List.append_nil, nums_num h1]
            rfl
          | _ => exact h1.elim
    | pairs =>
      cases ss with
      | cons _ _ => cases hl
      | nil =>
        cases is with
        | cons _ _ => exact h2.elim
        | nil =>
          cases i with
          | ps ks =>
            show (match pairsOf (((ks.map pairW).flatten) ++ []) with
              | none => none
              | some ks => (items [] []).map fun (p : List It5 × List Str) => (It5.ps ks :: p.1, p.2)) = _
            rw [List.append_nil, pairsOf_num h1.1 h1.2]
            rfl
          | _ => exact h1.elim
    | num =>
      have ih := items_fit ss is hl h2
      cases i with
      | n k =>
        show (match (numOf (nS k)).map It5.n with
          | none => none
          | some j => (items ss (is.map It5.wds).flatten).map fun (p : List It5 × List Str) => (j :: p.1, p.2)) = _
        rw [show numOf (nS k) = some k from numOf_num h1, ih]
        rfl
      | _ => exact h1.elim
    | val =>
      have ih := items_fit ss is hl h2
      cases i with
      | c w =>
        show (match (if w ∈ consW then some (It5.c w) else (valOf w).map It5.v) with
          | none => none
          | some j => (items ss (is.map It5.wds).flatten).map fun (p : List It5 × List Str) => (j :: p.1, p.2)) = _
        rw [if_pos (show w ∈ consW from h1), ih]
        rfl
      | v j =>
        have nc : numS j ∉ consW := fun m => by
          have key : ∀ y ∈ consW, (cs y).all (fun c => decide (c < 48 ∨ 57 < c)) = true := by decide +kernel
          exact num_no (key _ m) rfl
        show (match (if numS j ∈ consW then some (It5.c (numS j)) else (valOf (numS j)).map It5.v) with
          | none => none
          | some j => (items ss (is.map It5.wds).flatten).map fun (p : List It5 × List Str) => (j :: p.1, p.2)) = _
        rw [if_neg nc, valOf_num h1, ih]
        rfl
      | _ => exact h1.elim
    | op =>
      have ih := items_fit ss is hl h2
      cases i with
      | o w =>
        show (match (if w ∈ opsW then some (It5.o w) else none) with
          | none => none
          | some j => (items ss (is.map It5.wds).flatten).map fun (p : List It5 × List Str) => (j :: p.1, p.2)) = _
        rw [if_pos (show w ∈ opsW from h1), ih]
        rfl
      | _ => exact h1.elim
def Rw.ok (r : Rw) : Prop := ∃ ss, shapeOf r.w = some ss ∧ lastB ss = true ∧ fits ss r.its
theorem rowOf_ok {r : Rw} (h : r.ok) : rowOf r.w (r.its.map It5.wds).flatten = some r := by
  obtain ⟨ss, e, l, f⟩ := h
  unfold rowOf
  rw [e]
  show (match items ss (r.its.map It5.wds).flatten with
    | some (is, []) => some (⟨r.w, is⟩ : Rw)
    | _ => none) = some r
  rw [items_fit ss r.its l f]
end Cm

set_option linter.all false
/-! written dicts of texts, by Boolean checks; beginnings of texts -/
namespace Cm
open PySem L2 PySem.Spec PyProof.Rows
def keyT (e : DictEntry) : Option Str := match e.key with
  | .str x _ => some x
  | _ => none
def dkB (K : PySem.W.Frag) (a : Addr) (ks : List Str) : Bool := match K.lookup a with
  | some ⟨_, _, .dict es _, _⟩ => decide (es.toList.map keyT = ks.map some) && !(a == sysModules)
  | _ => false
theorem keyT_no {z : Str} : ∀ {l : List DictEntry} {ks : List Str}, l.map keyT = ks.map some → z ∉ ks → l.find? (·.key.isStr z) = none ∧ l.any (·.refKey) = false
  | [], _, _, _ => ⟨rfl, rfl⟩
  | e :: l, [], h, _ => by cases h
  | e :: l, k :: ks, h, n => by
    have h1 : keyT e :: l.map keyT = some k :: ks.map some := h
    injection h1 with h2 h3
    have ih := keyT_no h3 (fun m => n (List.mem_cons_of_mem _ m))
    have nk : ¬ z = k := fun q => n (q ▸ List.mem_cons_self)
    obtain ⟨eh, ek, ev⟩ := e
    cases ek with
    | str x t =>
      have : x = k := Option.some.inj h2
      subst this
      have e1 : (Value.str x t).isStr z = false := by
        show (x == z) = false
        rw [beq_eq_false_iff_ne]
        exact fun q => nk q.symm
      refine ⟨?_, ?_⟩
      · rw [List.find?_cons, e1]
        exact ih.1
      · rw [List.any_cons, ih.2]
        rfl
    | _ => cases h2
theorem dk_no {K : PySem.W.Frag} {a : Addr} {ks : List Str} (h : dkB K a ks = true) {z : Str} (n : z ∉ ks) : PySem.W.nsIn K a z = some none := by
  unfold dkB at h
  unfold PySem.W.nsIn
  split at h
  · rename_i c d es m sl e
    rw [e]
    simp only [Bool.and_eq_true, decide_eq_true_eq] at h
    obtain ⟨p, q⟩ := keyT_no h.1 n
    simp only [p, q]
    rfl
  · cases h
theorem dk_low {K : PySem.W.Frag} {a : Addr} {ks : List Str} (h : dkB K a ks = true) : (a == sysModules) = false := by
  unfold dkB at h
  split at h
  · simp only [Bool.and_eq_true] at h
    simpa using h.2
  · cases h
/-- every key is there -/
def inB (K : PySem.W.Frag) (a : Addr) (ks : List Str) : Bool := ks.all fun k => match PySem.W.nsIn K a k with
  | some (some _) => true
  | _ => false
theorem in_yes {K : PySem.W.Frag} {a : Addr} {ks : List Str} (h : inB K a ks = true) {z : Str} (m : z ∈ ks) : ∃ v, PySem.W.nsIn K a z = some (some v) := by
  have := List.all_eq_true.mp h z m
  split at this
  · rename_i v e
    exact ⟨v, e⟩
  · cases this
def strOf : Value → Option Str
  | .str x _ => some x
  | _ => none
/-- a written tuple of texts -/
def strsB (K : PySem.W.Frag) (tp : Addr) (xs : List Str) : Bool := match K.lookup tp with
  | some ⟨.type c, _, .seq its _, _⟩ => decide (c = "tuple") && (decide (its.toList.map strOf = xs.map some) && decide (xs.length ≤ 1000))
  | _ => false
theorem strs_vals : ∀ {its : List Value} {xs : List Str}, its.map strOf = xs.map some → Vals (xs.map V.str) its
  | [], [], _ => .nil
  | [], _ :: _, h => by cases h
  | _ :: _, [], h => by cases h
  | v :: its, x :: xs, h => by
    have h1 : strOf v :: its.map strOf = some x :: xs.map some := h
    injection h1 with h2 h3
    cases v with
    | str y t =>
      have : y = x := Option.some.inj h2
      subst this
      exact .cons ⟨_, rfl⟩ (strs_vals h3)
    | _ => cases h2
theorem strs_ok {K : PySem.W.Frag} {tp : Addr} {xs : List Str} (h : strsB K tp xs = true) (H : Hp) : SqT K H tp (xs.map V.str) := by
  unfold strsB at h
  split at h
  · rename_i c d its m sl e
    simp only [Bool.and_eq_true, decide_eq_true_eq] at h
    obtain ⟨h1, h2, h3⟩ := h
    refine .inr ⟨_, its, m, e, by rw [h1], rfl, ?_, strs_vals h2⟩
    have hl : its.toList.length = xs.length := by
      have := congrArg List.length h2
      simpa using this
    rw [← Array.length_toList, hl]
    exact Nat.le_trans h3 (by decide)
  · cases h
def shpB (K : PySem.W.Frag) (c : Addr) (L : List (Str × List Str)) : Bool := L.all fun r => match PySem.W.nsIn K c r.1 with
  | some (some (.ref tp)) => strsB K tp r.2
  | _ => false
theorem shp_ok {K : PySem.W.Frag} {c : Addr} {L : List (Str × List Str)} (h : shpB K c L = true) : ∀ r ∈ L, ∃ tp : Addr, PySem.W.nsIn K c r.1 = some (some (.ref tp)) ∧ ∀ H, SqT K H tp (r.2.map V.str) := fun r m => by
  have := List.all_eq_true.mp h r m
  split at this
  · rename_i tp e
    exact ⟨tp, e, fun H => strs_ok this H⟩
  · cases this
theorem starts {s p : Str} {c : Nat} {r : List Nat} (hs : cs s = c :: r) {d : Nat} (hp : cs p = [d]) : Txt.startswith s p = decide (c = d) := by
  have l1 : s.length = r.length + 1 := by rw [len_cs, hs]; rfl
  have l2 : p.length = 1 := by rw [len_cs, hp]; rfl
  have e : Builtin.Str.subAt s p 0 = decide (c = d) := by
    rw [StrLaws.subAt_eq, l2]
    show (((cs s).drop 0).take 1 == cs p) = _
    rw [hs, hp]
    show ([c] == [d]) = _
    rw [Bool.eq_iff_iff, beq_iff_eq, decide_eq_true_eq]
    constructor
    · intro e; injection e
    · rintro rfl; rfl
  show (decide (0 + p.length ≤ s.length) && Builtin.Str.subAt s p 0) = _
  rw [e, decide_eq_true (by omega), Bool.true_and]
theorem figs : cs ("0123456789" : Str) = [48, 49, 50, 51, 52, 53, 54, 55, 56, 57] := by decide +kernel
theorem in_figs (c : Nat) : c ∈ cs ("0123456789" : Str) ↔ 48 ≤ c ∧ c ≤ 57 := by
  rw [figs]
  simp only [List.mem_cons, List.not_mem_nil, or_false]
  omega
theorem num_int {i : Int} (h : i.natAbs ≤ 1000000000) : intText? (numS i) = some i := by
  have e := num_cs i
  have ls := num_len h
  by_cases q : i < 0
  · rw [if_pos q] at e
    have z := PySem.intText_neg (x := numS i) (cs := TL.numL i.natAbs) e (TL.numL_digits _) (TL.numL_ne _) (by omega)
    rw [TL.numL_val] at z
    rw [z]
    congr 1
    omega
  · have z := TL.int_num (n := i.natAbs) (by have := TL.numL_len (n := i.natAbs) (k := 10) (by decide) (by omega); omega)
    have e2 : numS i = Str.ofString (toString ((i.natAbs : Nat) : Int)) := by
      rw [show ((i.natAbs : Nat) : Int) = i by omega]
      rfl
    rw [e2, z]
    congr 1
    omega
theorem lit1 {s : Str} {c : Nat} (h : s = ⟨#[c]⟩) (d : Nat) : decide (V.str ⟨#[d]⟩ = V.str s) = decide (d = c) := by
  subst h
  rw [decS, Bool.eq_iff_iff, decide_eq_true_eq, decide_eq_true_eq]
  constructor
  · intro e
    injection e with e
    simpa using e
  · rintro rfl; rfl
/-- a def that stands under another name than its own -/
structure AtN (K : PySem.W.Frag) (mg : Str → Option Value) (n x : Str) (st : Stmt) (ps : List Str) : Prop where
  ex : ∃ (f : Addr) (fd : FuncData), Fun K n n st f fd ∧ mg x = some (.ref f) ∧ Binds K fd ps []
theorem cl_ofN {P : Program} {w : World} {K : PySem.W.Frag} {mg : Str → Option Value} {base : Heap} {n x : Str} {st : Stmt} {N ps : List Str} {k : Nat} {sp : Sp} (T : AtN K mg n x st ps) (S : FnScope N ps (defScope st))
    (len : ∀ vs H Q E, sp vs H Q E → vs.length = ps.length)
    (hb : ∀ (f : Addr) (cdv : Value) (A : Around) (outer : List Env) (s : Shared) (H : Hp) (vs : List V) (Q : VK) (E : XK),
      Room k (A.deeper (envOfC n (defScope st) s.heap.objs.size f cdv)) → sp vs H Q E →
      ∃ t, PSs (cxOf CX0 P w K mg base N n (defScope st) f cdv A outer s H E).nox (defBody st) t ∧ t { nx := fun _ H' => Q .non H', rt := Q } (start N vs) H) :
    Cl P w K mg base (k + 1) x sp := by
  obtain ⟨f, fd, F, hm, b⟩ := T.ex
  exact ⟨f, fd, ps, F.ok S len (hb f), hm, F.kp, b⟩
end Cm

namespace K32
open PySem L2 Cm
def shapeW : List Str := ["fn", "let", "rec", "set", "if", "do", "keep", "once", "take", "mark", "wind", "show", "ask"]
def shName : Sh → Str
  | .num => "number"
  | .val => "value"
  | .op => "op"
  | .cells => "cells"
  | .pairs => "pairs"
def shapesL : List (Str × List Sh) := [("value", [.num, .val]), ("copy", [.num, .num]), ("fun", [.num, .num, .cells]), ("op", [.num, .op, .cells]), ("show", [.num, .num]), ("ask", [.num]), ("rec", [.num, .pairs]), ("keep", [.num]), ("once", [.num]), ("mark", []), ("save", [.num]), ("unless", [.num, .num]), ("jump", [.num]), ("back", [.num]), ("call", [.num, .cells]), ("take", [.num]), ("wind", [.num, .num, .num])]
def shapesT : List (Str × List Str) := shapesL.map fun r => (r.1, r.2.map shName)
structure Glb (K : PySem.W.Frag) (w : World) (mg : Str → Option Value) : Prop where
  gr : ∃ k : Tok, mg "GREATEST" = some (.int 1000000000 k)
  mf : ∃ k : Tok, mg "MOST_FIGURES" = some (.int 5 k)
  fg : ∃ k : Tok, mg "FIGURES" = some (.str "0123456789" k)
  cn : ∃ a : Addr, mg "CONSTANTS_jumptext" = some (.ref a) ∧ ∀ H, SqT K H a (consW.map V.str)
  ct : ∃ (ca : Addr) (es : Array DictEntry) (n : Nat), mg "COUNTS" = some (.ref ca) ∧ KDict K w ca es n ∧ (∀ z, z ∉ headW → PySem.W.nsIn K ca z = some none) ∧ ∀ z, z ∈ headW → ∃ v, PySem.W.nsIn K ca z = some (some v)
  sh : ∃ (ca : Addr) (es : Array DictEntry) (n : Nat), mg "SHAPES" = some (.ref ca) ∧ KDict K w ca es n ∧ (∀ z, z ∉ shapeW → PySem.W.nsIn K ca z = some none) ∧ ∀ z, z ∈ shapeW → ∃ v, PySem.W.nsIn K ca z = some (some v)
  sl : ∃ (ca : Addr) (es : Array DictEntry) (n : Nat), mg "SHAPES_OF_LINES" = some (.ref ca) ∧ KDict K w ca es n ∧ (∀ z, z ∉ shapesT.map (·.1) → PySem.W.nsIn K ca z = some none) ∧ ∀ r ∈ shapesT, ∃ tp : Addr, PySem.W.nsIn K ca r.1 = some (some (.ref tp)) ∧ ∀ H, SqT K H tp (r.2.map V.str)
def LW : Nat := 1000000
def numV : Option Nat → V
  | none => .non
  | some n => .int (n : Nat)
def spNumOf : Sp := fun vs H Q _ => ∃ s : Str, vs = [.str s] ∧ s.length ≤ LW ∧ Q (numV (numOf s)) H
def spIsNum : Sp := fun vs H Q _ => ∃ s : Str, vs = [.str s] ∧ s.length ≤ LW ∧ Q (.bl (valOf s).isSome) H
def spIsOp : Sp := fun vs H Q _ => ∃ s : Str, vs = [.str s] ∧ Q (.bl (decide (s ∈ opsW))) H
section
variable {P : Program} {w : World} {K : PySem.W.Frag} {mg : Str → Option Value} {base : Heap}
abbrev s_p_number_of : Stmt := top 45
abbrev N_p_number_of : List Str := ["word", "sign"]
theorem sc_p_number_of : FnScope N_p_number_of ["word"] (defScope s_p_number_of) := ⟨rfl, rfl, rfl, by decide +kernel, rfl, by decide +kernel, by decide +kernel⟩
theorem in_dig (c : Nat) : decide (c ∈ cs ("0123456789" : Str)) = dig c := by
  unfold dig
  by_cases h : 48 ≤ c ∧ c ≤ 57
  · rw [decide_eq_true h, decide_eq_true ((in_figs c).mpr h)]
  · rw [decide_eq_false h, decide_eq_false fun m => h ((in_figs c).mp m)]
theorem at_cs {s : Str} {i d : Nat} (h : s.cps[i]? = some d) : (cs s)[i]? = some d := by
  show s.cps.toList[i]? = some d
  rw [Array.getElem?_toList]
  exact h
theorem numOf_no {s : Str} (h : canon 5 (cs s) = false) : numOf s = none := by
  unfold numOf
  rw [h]
  rfl
theorem ok_number_of (T : Txt mg) (G : Glb K w mg) (D : At K mg "_number_of" s_p_number_of ["word"]) : Cl P w K mg base 1 "_number_of" spNumOf := by
  refine cl_of D sc_p_number_of (fun vs H Q E h => ?_) fun f cdv A outer s H vs Q E hr h => ?_
  · obtain ⟨s, rfl, _⟩ := h
    rfl
  · obtain ⟨s, rfl, hl, k⟩ := h
    obtain ⟨km, hm⟩ := G.mf
    obtain ⟨kf, hf⟩ := G.fg
    refine ⟨_, (pss_cons (ps_if (PW.pt (pw_or (pt_cmpR op_eq (pv 0) pe_str (nomark _)) (pw_or (pt_cmpR op_gt (pe_callB call_len_str (by rfl) T.len (by decide +kernel) (pa_cons (pv 0) pa_nil)) (pe_glob (v := .int 5) (by rfl) hm ⟨_, rfl⟩) (nomark _)) (pw_or1 (PW.pt (pw_and (pt_truth (pe_m1 PySem.F.slot_str_startswith PySem.F.type_str_startswith mt_startswith (pv 0) pe_str) (by intro _; rfl)) (pw_and1 (pt_cmpR op_ne (pv 0) pe_str (nomark _)))))))))
        (pss_one (ps_ret pe_non))
        pss_nil)
      (pss_cons (ps_for PassesOwn.never rfl (pi_str (pv 0)) (pg_name (i := 1) sc_p_number_of.nd rfl (Or.inl rfl))
        (pss_one (ps_if (pt_cmpR op_notIn_sign (pv 1) (pe_glob (v := .str "0123456789") (by rfl) hf ⟨_, rfl⟩) (by rfl))
          (pss_one (ps_ret pe_non))
          pss_nil)))
      (pss_one (ps_ret (pe_callTy call_int_str (by rfl) T.int (by decide +kernel) (pa_cons (pv 0) pa_nil)))))), ?_⟩
    have hz : s.length ≤ sizeLine := Nat.le_trans hl (by decide)
    refine ⟨_, rfl, rfl, _, rfl, ?_⟩
    rw [decS]
    by_cases e0 : s = ""
    · rw [decide_eq_true e0]
      refine iteT ?_
      have : numOf s = none := numOf_no (by rw [e0]; decide +kernel)
      rw [this] at k
      exact k
    rw [decide_eq_false e0]
    refine iteF ⟨_, rfl, s, rfl, hz, _, _, rfl, rfl, _, rfl, ?_⟩
    by_cases e1 : 5 < s.length
    · rw [decide_eq_true (show (5 : Int) < (s.length : Nat) by omega)]
      refine iteT ?_
      have : numOf s = none := numOf_no (by
        rw [← Bool.not_eq_true]
        intro c
        obtain ⟨_, b, _⟩ := canon_iff.mp c
        rw [len_cs] at e1
        omega)
      rw [this] at k
      exact k
    rw [decide_eq_false (show ¬ (5 : Int) < (s.length : Nat) by omega)]
    obtain ⟨c, r, ec⟩ : ∃ c r, cs s = c :: r := by
      cases q : cs s with
      | nil => exact absurd (cs_inj (show cs s = cs "" from q)) e0
      | cons c r => exact ⟨c, r, rfl⟩
    refine iteF ⟨_, rfl, ⟨_, rfl⟩, _, _, rfl, rfl, _, rfl, ?_⟩
    rw [starts (d := 48) ec (by decide +kernel)]
    have e5 : (cs s).length ≤ 5 := by rw [← len_cs]; omega
    by_cases z : c = 48
    rw [decide_eq_true z]
    refine iteT ⟨_, rfl, rfl, _, rfl, ?_⟩
    rw [decS]
    by_cases z2 : s = "0"
    rw [decide_eq_true z2]
    refine iteF ?_
    have nz : (cs s).head? = some 48 → cs s = [48] := fun _ => by rw [z2]; decide +kernel
    rotate_left
    focus
      rw [decide_eq_false z2]
      refine iteT ?_
      have : numOf s = none := numOf_no (by
        rw [← Bool.not_eq_true]
        intro q
        obtain ⟨_, _, _, b⟩ := canon_iff.mp q
        exact z2 (cs_inj ((b (by rw [ec, z]; rfl)).trans (by decide +kernel))))
      rw [this] at k
      exact k
    rw [decide_eq_false z]
    refine iteF ?_
    have nz : (cs s).head? = some 48 → cs s = [48] := fun q => by
      rw [ec] at q
      exact absurd (Option.some.inj q) z
    all_goals
      refine ⟨_, rfl, s, rfl, ?_⟩
      refine for_it walk_str (fun j σ H2 => ∃ v1 : Option V, σ = [some (.str s), v1] ∧ H2 = H ∧ ∀ d ∈ (cs s).take j, dig d = true) ⟨_, rfl, rfl, fun d m => by cases m⟩ (fun _ _ _ _ _ => trivial) ?_ ?_
      · rintro j v σ H1 H2 hj ⟨v1, rfl, rfl, al⟩ ⟨rfl, d, ed, rfl⟩
        have ed' := at_cs ed
        refine ⟨_, rfl, d, _, rfl, rfl, _, rfl, ?_⟩
        show if (!decide (d ∈ cs ("0123456789" : Str))) = true then _ else _
        rw [in_dig]
        cases q : dig d with
        | true =>
          refine iteF ⟨some (.str ⟨#[d]⟩), rfl, rfl, fun x m => ?_⟩
          rw [List.take_succ, ed'] at m
          rcases List.mem_append.mp m with m | m
          · exact al x m
          · rw [List.mem_singleton.mp m]
            exact q
        | false =>
          refine iteT ?_
          have : numOf s = none := numOf_no (by
            rw [← Bool.not_eq_true]
            intro t
            obtain ⟨_, _, b, _⟩ := canon_iff.mp t
            rw [b d (List.mem_of_getElem? ed')] at q
            cases q)
          rw [this] at k
          exact k
      · rintro σ H1 ⟨v1, rfl, rfl, al⟩
        have al' : ∀ d ∈ cs s, dig d = true := fun d m => al d (by show d ∈ (cs s).take s.length; rw [List.take_of_length_le (show (cs s).length ≤ s.length by rw [len_cs]; exact Nat.le_refl _)]; exact m)
        have e : numOf s = some (dval (cs s)) := by
          unfold numOf
          have cn : canon 5 (cs s) = true := canon_iff.mpr ⟨(by rw [ec]; exact fun q => by cases q), e5, al', nz⟩
          rw [if_pos cn]
        obtain ⟨es, en⟩ := numOf_inv e
        rw [e] at k
        generalize dval (cs s) = n at es en k
        subst es
        exact ⟨_, rfl, _, _, rfl, TL.int_num (n := n) (by rw [← numS_nat]; omega), by rw [len_cs]; omega, k⟩
abbrev s_p_is_op : Stmt := top 21
abbrev N_p_is_op : List Str := ["word"]
theorem sc_p_is_op : FnScope N_p_is_op ["word"] (defScope s_p_is_op) := ⟨rfl, rfl, rfl, by decide +kernel, rfl, by decide +kernel, by decide +kernel⟩
theorem opsW_split (s : Str) : decide (s ∈ opsW) = (decide (s ∈ headW) && !decide (s ∈ shapeW)) := by
  by_cases q : s ∈ headW
  · have key : ∀ y ∈ headW, decide (y ∈ opsW) = !decide (y ∈ shapeW) := by decide +kernel
    rw [key s q, decide_eq_true q, Bool.true_and]
  · rw [decide_eq_false q, Bool.false_and]
    have key : ∀ y ∈ opsW, y ∈ headW := by decide +kernel
    exact decide_eq_false fun m => q (key s m)
theorem ok_is_op (G : Glb K w mg) (D : At K mg "is_op" s_p_is_op ["word"]) : Cl P w K mg base 1 "is_op" spIsOp := by
  refine cl_of D sc_p_is_op (fun vs H Q E h => ?_) fun f cdv A outer s H vs Q E hr h => ?_
  · obtain ⟨s, rfl, _⟩ := h
    rfl
  · obtain ⟨x, rfl, k⟩ := h
    rw [opsW_split] at k
    obtain ⟨ca, es, n, hca, DC, ncn, ncs⟩ := G.ct
    obtain ⟨sa, es2, n2, hsa, DS, nsn, nss⟩ := G.sh
    refine ⟨_, (pss_one (ps_ret (pe_and (pe_cmpR (op_in_kd DC) (pv 0) (pe_glob (v := .ref ca) (by rfl) hca rfl) (by rfl)) (pe_one (pe_cmpR (op_notIn_kd DS) (pv 0) (pe_glob (v := .ref sa) (by rfl) hsa rfl) (by rfl)))))), ?_⟩
    by_cases q : x ∈ headW
    · rw [decide_eq_true q] at k
      obtain ⟨tp, e⟩ := ncs x q
      refine ⟨_, rfl, x, some tp, rfl, rfl, e, _, rfl, ?_⟩
      refine iteT ?_
      by_cases q2 : x ∈ shapeW
      · obtain ⟨f, e2⟩ := nss x q2
        rw [decide_eq_true q2] at k
        exact ⟨_, rfl, x, some f, rfl, rfl, e2, k⟩
      · rw [decide_eq_false q2] at k
        exact ⟨_, rfl, x, none, rfl, rfl, nsn _ q2, k⟩
    · rw [decide_eq_false q] at k
      exact ⟨_, rfl, x, none, rfl, rfl, ncn _ q, _, rfl, iteF k⟩
abbrev s_p_is_number : Stmt := top 18
abbrev N_p_is_number : List Str := ["word", "figures", "sign"]
theorem sc_p_is_number : FnScope N_p_is_number ["word"] (defScope s_p_is_number) := ⟨rfl, rfl, rfl, by decide +kernel, rfl, by decide +kernel, by decide +kernel⟩
/-- a word behind its minus -/
def bare (s : Str) : Str := if (cs s).head? = some 45 then ofL ((cs s).drop 1) else s
theorem bare_len (s : Str) : (bare s).length ≤ s.length := by
  unfold bare
  split
  · rw [len_cs, len_cs, cs_ofL, List.length_drop]
    omega
  · exact Nat.le_refl _
theorem cut_one (s : Str) : cutS s (some (1 : Int)) Option.none = ofL ((cs s).drop 1) := by
  apply cs_inj
  unfold cutS
  have z := HT.sIx_nat s.length 0 1
  rw [show (some (1 : Int)) = some ((1 : Nat) : Int) from rfl, z]
  show cs (ofL _) = cs (ofL _)
  rw [cs_ofL, cs_ofL]
  show List.take _ ((cs s).drop (min 1 s.length)) = _
  have hl : s.length = (cs s).length := len_cs s
  have sn : HT.sIx s.length s.length Option.none = s.length := rfl
  rw [sn]
  cases q : cs s with
  | nil =>
    rw [q] at hl
    simp
  | cons c r =>
    rw [q, List.length_cons] at hl
    rw [Nat.min_eq_left (by omega)]
    refine List.take_of_length_le ?_
    rw [List.length_drop, List.length_cons]
    omega
theorem val_bare (s : Str) : (valOf s).isSome = (canon 10 (cs (bare s)) && (decide (dval (cs (bare s)) ≤ 1000000000) && (decide ((cs (bare s)).head? ≠ some 48) || decide (s = "0")))) := by
  have vn : ∀ l, (valN l).isSome = (canon 10 l && decide (dval l ≤ 1000000000)) := fun l => by
    unfold valN
    cases canon 10 l with
    | false => rfl
    | true =>
      by_cases q : dval l ≤ 1000000000
      · rw [if_pos ⟨rfl, q⟩, decide_eq_true q]; rfl
      · rw [if_neg fun z => q z.2, decide_eq_false q]; rfl
  unfold valOf bare
  by_cases h : (cs s).head? = some 45
  · rw [if_pos h, if_pos h, cs_ofL]
    have ns : ¬ s = "0" := fun z => by
      rw [z] at h
      exact absurd h (by decide +kernel)
    rw [decide_eq_false ns, Bool.or_false]
    by_cases q0 : (cs s).drop 1 = [48]
    · rw [if_pos q0, q0]
      rfl
    · rw [if_neg q0, Option.isSome_map, vn]
      cases cn : canon 10 ((cs s).drop 1) with
      | false => rfl
      | true =>
        have := (canon_iff.mp cn).2.2.2
        have h4 : (cs s).drop 1 ≠ [] := (canon_iff.mp cn).1
        rw [decide_eq_true (show ((cs s).drop 1).head? ≠ some 48 from fun z => q0 (this z)), Bool.and_true]
  · rw [if_neg h, if_neg h, Option.isSome_map, vn]
    cases cn : canon 10 (cs s) with
    | false => rfl
    | true =>
      have := (canon_iff.mp cn).2.2.2
      by_cases q : (cs s).head? = some 48
      · have e : s = "0" := cs_inj ((this q).trans (by decide +kernel))
        rw [decide_eq_true e, Bool.or_true, Bool.and_true]
      · rw [decide_eq_true (show (cs s).head? ≠ some 48 from q), Bool.true_or, Bool.and_true]
theorem ok_is_number (T : Txt mg) (G : Glb K w mg) (D : At K mg "is_number" s_p_is_number ["word"]) : Cl P w K mg base 1 "is_number" spIsNum := by
  refine cl_of D sc_p_is_number (fun vs H Q E h => ?_) fun f cdv A outer s H vs Q E hr h => ?_
  · obtain ⟨s, rfl, _⟩ := h
    rfl
  · obtain ⟨s, rfl, hl, k⟩ := h
    obtain ⟨kg, hg⟩ := G.gr
    obtain ⟨kf, hf⟩ := G.fg
    refine ⟨_, (pss_mid (ps_set (i := 1) sc_p_is_number.nd rfl (Or.inl rfl) (pe_ifExp (pt_truth (pe_m1 PySem.F.slot_str_startswith PySem.F.type_str_startswith mt_startswith (pv 0) pe_str) (by intro _; rfl)) (pe_slice sl_str (pv 0) (po_some pe_int) po_none) (pv 0)))
      (pss_cons (ps_if (PW.pt (pw_or (pt_cmpR op_eq (pv 1) pe_str (nomark _)) (pw_or1 (pt_cmpR op_gt (pe_callB call_len_str (by rfl) T.len (by decide +kernel) (pa_cons (pv 1) pa_nil)) (pe_callB call_len_str (by rfl) T.len (by decide +kernel) (pa_cons (pe_callTy call_str_int (by rfl) T.str (by decide +kernel) (pa_cons (pe_glob (v := .int 1000000000) (by rfl) hg ⟨_, rfl⟩) pa_nil)) pa_nil)) (nomark _)))))
        (pss_one (ps_ret pe_bl))
        pss_nil)
      (pss_cons (ps_for PassesOwn.never rfl (pi_str (pv 1)) (pg_name (i := 2) sc_p_is_number.nd rfl (Or.inl rfl))
        (pss_one (ps_if (pt_cmpR op_notIn_sign (pv 2) (pe_glob (v := .str "0123456789") (by rfl) hf ⟨_, rfl⟩) (by rfl))
          (pss_one (ps_ret pe_bl))
          pss_nil)))
      (pss_cons (ps_if (pt_truth (pe_m1 PySem.F.slot_str_startswith PySem.F.type_str_startswith mt_startswith (pv 1) pe_str) (by intro _; rfl))
        (pss_one (ps_ret (pe_cmpR op_eq (pv 0) pe_str (nomark _))))
        pss_nil)
      (pss_one (ps_ret (pe_cmpR op_le (pe_callTy call_int_str (by rfl) T.int (by decide +kernel) (pa_cons (pv 1) pa_nil)) (pe_glob (v := .int 1000000000) (by rfl) hg ⟨_, rfl⟩) (nomark _)))))))), ?_⟩
    have lg : (Str.ofString (toString (1000000000 : Int))).length = 10 := by decide +kernel
    have hz : s.length ≤ sizeLine := Nat.le_trans hl (by decide)
    have hzb : (bare s).length ≤ sizeLine := Nat.le_trans (bare_len s) hz
    rw [val_bare] at k
    refine ⟨fun σ' H' => σ' = [some (.str s), some (.str (bare s)), none] ∧ H' = H, ?_, ?_⟩
    · refine ⟨_, rfl, ⟨_, rfl⟩, _, _, rfl, rfl, _, rfl, ?_⟩
      cases q : cs s with
      | nil =>
        have e0 : s = "" := cs_inj q
        have st : Txt.startswith s "-" = false := by rw [e0]; decide +kernel
        rw [st]
        refine iteF ⟨_, rfl, ?_, rfl⟩
        unfold bare
        rw [q]
        rfl
      | cons c r =>
        rw [starts (d := 45) q (by decide +kernel)]
        by_cases z : c = 45
        · rw [decide_eq_true z]
          refine iteT ⟨_, rfl, _, rfl, _, rfl, hz, ?_⟩
          refine ⟨?_, rfl⟩
          rw [cut_one]
          unfold bare
          rw [q, if_pos (by rw [z]; rfl)]
          rfl
        · rw [decide_eq_false z]
          refine iteF ⟨_, rfl, ?_, rfl⟩
          unfold bare
          rw [q, if_neg (fun h : (c :: r).head? = some 45 => z (Option.some.inj h))]
          rfl
    · rintro σ' H' ⟨rfl, rfl⟩
      have hb0 : s = "0" → bare s = "0" := fun z => by rw [z]; decide +kernel
      generalize bare s = b at hzb k hb0 ⊢
      refine ⟨_, rfl, rfl, _, rfl, ?_⟩
      rw [decS]
      by_cases e0 : b = ""
      · rw [decide_eq_true e0]
        refine iteT ?_
        rw [e0] at k
        exact k
      rw [decide_eq_false e0]
      refine iteF ⟨_, rfl, _, rfl, hzb, _, rfl, by decide +kernel, _, rfl, by rw [lg]; decide, _, _, rfl, rfl, _, rfl, ?_⟩
      rw [lg]
      by_cases e1 : 10 < b.length
      · rw [decide_eq_true (by omega)]
        refine iteT ?_
        have cn : canon 10 (cs b) = false := by
          rw [← Bool.not_eq_true]
          intro c
          obtain ⟨_, q, _⟩ := canon_iff.mp c
          rw [len_cs] at e1
          omega
        rw [cn] at k
        exact k
      rw [decide_eq_false (by omega)]
      obtain ⟨c, r, ec⟩ : ∃ c r, cs b = c :: r := by
        cases q : cs b with
        | nil => exact absurd (cs_inj (show cs b = cs "" from q)) e0
        | cons c r => exact ⟨c, r, rfl⟩
      refine iteF ⟨_, rfl, _, rfl, ?_⟩
      refine for_it walk_str (fun j σ H2 => ∃ v1 : Option V, σ = [some (.str s), some (.str b), v1] ∧ H2 = H' ∧ ∀ d ∈ (cs b).take j, dig d = true) ⟨_, rfl, rfl, fun d m => by cases m⟩ (fun _ _ _ _ _ => trivial) ?_ ?_
      · rintro j v σ H1 H2 hj ⟨v1, rfl, rfl, al⟩ ⟨rfl, d, ed, rfl⟩
        have ed' := at_cs ed
        refine ⟨_, rfl, d, _, rfl, rfl, _, rfl, ?_⟩
        show if (!decide (d ∈ cs ("0123456789" : Str))) = true then _ else _
        rw [in_dig]
        cases q : dig d with
        | true =>
          refine iteF ⟨some (.str ⟨#[d]⟩), rfl, rfl, fun x m => ?_⟩
          rw [List.take_succ, ed'] at m
          rcases List.mem_append.mp m with m | m
          · exact al x m
          · rw [List.mem_singleton.mp m]
            exact q
        | false =>
          refine iteT ?_
          have cn : canon 10 (cs b) = false := by
            rw [← Bool.not_eq_true]
            intro t
            obtain ⟨_, _, b, _⟩ := canon_iff.mp t
            rw [b d (List.mem_of_getElem? ed')] at q
            cases q
          rw [cn] at k
          exact k
      · rintro σ H1 ⟨v1, rfl, rfl, al⟩
        have al' : ∀ d ∈ cs b, dig d = true := fun d m => al d (by show d ∈ (cs b).take b.length; rw [List.take_of_length_le (show (cs b).length ≤ b.length by rw [len_cs]; exact Nat.le_refl _)]; exact m)
        have e5 : (cs b).length ≤ 10 := by rw [← len_cs]; omega
        have ne : cs b ≠ [] := by rw [ec]; exact fun q => by cases q
        refine ⟨_, rfl, ⟨_, rfl⟩, _, _, rfl, rfl, _, rfl, ?_⟩
        rw [starts (d := 48) ec (by decide +kernel)]
        by_cases z : c = 48
        · rw [decide_eq_true z]
          refine iteT ⟨_, rfl, rfl, ?_⟩
          rw [decS]
          by_cases q : s = "0"
          · rw [decide_eq_true q]
            rw [hb0 q, decide_eq_true q] at k
            exact k
          · rw [decide_eq_false q]
            rw [decide_eq_false q, decide_eq_false (show ¬ (cs b).head? ≠ some 48 by rw [ec, z]; exact fun h => h rfl), Bool.or_false, Bool.and_false, Bool.and_false] at k
            exact k
        · rw [decide_eq_false z]
          have hd : (cs b).head? ≠ some 48 := by
            rw [ec]
            exact fun q => z (Option.some.inj q)
          have cn : canon 10 (cs b) = true := canon_iff.mpr ⟨ne, e5, al', fun q => absurd q hd⟩
          rw [cn, decide_eq_true hd, Bool.true_or, Bool.and_true, Bool.true_and] at k
          have back := numL_back (cs b) ne al' (fun q => absurd q hd)
          generalize dval (cs b) = n at back k
          have eb : b = numS (n : Nat) := cs_inj (by rw [numS_nat, back])
          subst eb
          refine iteF ⟨_, rfl, _, _, rfl, TL.int_num (n := n) (by rw [← numS_nat]; omega), by rw [len_cs]; omega, _, _, rfl, rfl, ?_⟩
          show Q (V.bl (decide (((n : Nat) : Int) ≤ 1000000000))) H1
          by_cases q : n ≤ 1000000000
          · rw [decide_eq_true q] at k
            rw [decide_eq_true (show ((n : Nat) : Int) ≤ 1000000000 by omega)]
            exact k
          · rw [decide_eq_false q] at k
            rw [decide_eq_false (show ¬ ((n : Nat) : Int) ≤ 1000000000 by omega)]
            exact k
end
end K32

set_option linter.all false
/-! the names of a row that pass a test, as a comprehension -/
namespace Cm
open PySem L2 PySem.Spec PyProof.Rows
theorem range_filtS (p : Str → Bool) (l : List Str) : (List.range l.length).filterMap (fun i => (l[i]?).bind fun x => if p x = true then some (PyData.str x) else none) = (l.filter p).map PyData.str := by
  induction l with
  | nil => rfl
  | cons a l ih =>
    rw [List.length_cons, List.range_succ_eq_map, List.filterMap_cons]
    simp only [List.getElem?_cons_zero, Option.bind_some, List.filterMap_map]
    have e : List.filterMap ((fun i => ((a :: l)[i]?).bind fun x => if p x = true then some (PyData.str x) else none) ∘ Nat.succ) (List.range l.length) = (l.filter p).map PyData.str := by
      rw [← ih]
      rfl
    rw [e]
    by_cases q : p a = true
    · rw [if_pos q, List.filter_cons_of_pos q]
      rfl
    · rw [if_neg q, List.filter_cons_of_neg q]
theorem lc_filt {K : PySem.W.Frag} {J : It} {G : Hp → Prop} (l : List Str) (p : Str → Bool) (wk : Walk J (l.map V.str).length G (YAt (l.map V.str))) {g : TG} {tt : TT} {te : TE} {vs : List Nat} {σ : L2.St} {H1 : Hp} {D : Addr} {Qd : Hp → Prop}
    (hD : H1 D = Option.none) (hn : l.length ≤ 100000) (hG : ∀ H, Same H1 H → G H)
    (hs : ∀ y H, y ∈ l → Same H1 H → ∀ (Q1 : VK) (Q0 : Hp → Prop), (∀ H4, Same H H4 → p y = true → Q1 (.str y) H4) → (∀ H4, Same H H4 → p y = false → Q0 H4) →
      g (.str y) (wipe σ vs) H fun σ2 H2 => wipe σ2 vs = wipe σ vs ∧ tt σ2 H2 fun b H3 => if b = true then te σ2 H3 Q1 else Q0 H3)
    (hd : ∀ H, Same H1 H → H D = some (.lst ((l.filter p).map V.str)) → Qd H) :
    ∃ W : Nat → Nat → Hp → Prop, (∃ m, W 0 m (upd H1 D (.lst []))) ∧ ∀ i m H, W i m H →
      (J.stop i H ∧ Qd H) ∨ (J.go i H ∧ ∃ Nx : Hp → Prop, (∀ H', Nx H' → ∃ m', m' < m ∧ W (i + 1) m' H') ∧ ∀ x H', J.yld i H x H' → g x (wipe σ vs) H' fun σ2 H2 => wipe σ2 vs = wipe σ vs ∧ tt σ2 H2 fun b H3 =>
        if b = true then te σ2 H3 fun y H4 => ∃ acc, H4 D = some (.lst acc) ∧ acc.length < sizeLine ∧ Nx (upd H4 D (.lst (acc ++ [y]))) else Nx H3) := by
  refine lc_data (K := K) wk (fun i => (l[i]?).bind fun x => if p x = true then some (.str x) else none) hD (by rw [List.length_map]; exact hn) hG (fun i _ d e => ?_) ?_ ?_
  · obtain ⟨b, _, e⟩ := Option.bind_eq_some_iff.mp e
    split at e
    · cases e; rfl
    · cases e
  · rintro i x H H' hi s ⟨rfl, ex⟩ Q1 Q0 q1 q0
    obtain ⟨y, ey, rfl⟩ := map_at ex
    refine hs y _ (List.mem_of_getElem? ey) s Q1 Q0 (fun H4 s4 z => q1 _ _ (.str y) (by rw [ey]; exact if_pos z) s4 (.str y)) (fun H4 s4 z => q0 _ (by rw [ey]; exact if_neg (by rw [z]; exact Bool.false_ne_true)) s4)
  · intro H acc s hacc ha
    rw [List.length_map, range_filtS p] at ha
    have := dpAll_strs_inv ha
    subst this
    exact hd H s hacc
/-- is a name in a row of names -/
theorem in_strs {l : List Str} {y : Str} {A B : Prop} (t : y ∈ l → A) (f : y ∉ l → B) : if inV (.str y) (l.map V.str) = true then A else B := by
  rw [in_words]
  by_cases z : y ∈ l
  · rw [decide_eq_true z]
    exact (if_pos rfl).mpr (t z)
  · rw [decide_eq_false z]
    exact (if_neg Bool.false_ne_true).mpr (f z)
theorem nin_strs {l : List Str} {y : Str} {A B : Prop} (t : y ∉ l → A) (f : y ∈ l → B) : if (!inV (.str y) (l.map V.str)) = true then A else B := by
  rw [in_words]
  by_cases z : y ∈ l
  · rw [decide_eq_true z]
    exact (if_neg Bool.false_ne_true).mpr (f z)
  · rw [decide_eq_false z]
    exact (if_pos rfl).mpr (t z)
end Cm

set_option linter.all false
/-! comprehensions that map a row of known values to values without parts -/
namespace Cm
open PySem L2 PySem.Spec PyProof.Rows
theorem range_mapO {α β : Type} (f : α → β) (l : List α) : (List.range l.length).filterMap (fun i => (l[i]?).map f) = l.map f := Cm.range_map f l
theorem dpAll_inv {α : Type} {K : PySem.W.Frag} {f : α → PyData} {fv : α → V} (inv : ∀ H v x, Dp K H v (f x) → v = fv x) : ∀ {l : List α} {H : Hp} {vs : List V}, DpAll K H vs (l.map f) → vs = l.map fv
  | [], _, _, h => by cases h; rfl
  | x :: l, H, vs, h => by
    cases h with
    | cons a b => rw [inv _ _ _ a, dpAll_inv inv b]; rfl
theorem lc_mapF {α : Type} {K : PySem.W.Frag} {J : It} {G : Hp → Prop} (l : List α) (em : α → V) (f : α → PyData) (fv : α → V) (hf : ∀ x, flatD (f x) = true) (inv : ∀ H v x, Dp K H v (f x) → v = fv x)
    (wk : Walk J (l.map em).length G (YAt (l.map em))) {g : TG} {tt : TT} {te : TE} {vs : List Nat} {σ : L2.St} {H1 : Hp} {D : Addr} {Qd : Hp → Prop}
    (hD : H1 D = Option.none) (hn : l.length ≤ 100000) (hG : ∀ H, Same H1 H → G H)
    (hs : ∀ x H, x ∈ l → Same H1 H → ∀ (Q1 : VK) (Q0 : Hp → Prop), (∀ v H4, Same H H4 → Dp K H4 v (f x) → Q1 v H4) →
      g (em x) (wipe σ vs) H fun σ2 H2 => wipe σ2 vs = wipe σ vs ∧ tt σ2 H2 fun b H3 => if b = true then te σ2 H3 Q1 else Q0 H3)
    (hd : ∀ H, Same H1 H → H D = some (.lst (l.map fv)) → Qd H) :
    ∃ W : Nat → Nat → Hp → Prop, (∃ m, W 0 m (upd H1 D (.lst []))) ∧ ∀ i m H, W i m H →
      (J.stop i H ∧ Qd H) ∨ (J.go i H ∧ ∃ Nx : Hp → Prop, (∀ H', Nx H' → ∃ m', m' < m ∧ W (i + 1) m' H') ∧ ∀ x H', J.yld i H x H' → g x (wipe σ vs) H' fun σ2 H2 => wipe σ2 vs = wipe σ vs ∧ tt σ2 H2 fun b H3 =>
        if b = true then te σ2 H3 fun y H4 => ∃ acc, H4 D = some (.lst acc) ∧ acc.length < sizeLine ∧ Nx (upd H4 D (.lst (acc ++ [y]))) else Nx H3) := by
  refine lc_data (K := K) wk (fun i => (l[i]?).map f) hD (by rw [List.length_map]; exact hn) hG (fun i _ d e => ?_) ?_ ?_
  · obtain ⟨b, _, e⟩ := Option.map_eq_some_iff.mp e
    rw [← e]
    exact hf b
  · rintro i x H H' hi s ⟨rfl, ex⟩ Q1 Q0 q1 q0
    obtain ⟨y, ey, rfl⟩ := map_at ex
    exact hs y _ (List.mem_of_getElem? ey) s Q1 Q0 (fun v H4 s4 hv => q1 v H4 _ (by rw [ey]; rfl) s4 hv)
  · intro H acc s hacc ha
    rw [List.length_map, range_mapO] at ha
    rw [dpAll_inv inv ha] at hacc
    exact hd H s hacc
def numvD : Option Nat → PyData
  | none => .none
  | some n => .int (n : Nat)
def numv (n : Nat) : V := .int (n : Nat)
theorem numD_inv {K : PySem.W.Frag} {H : Hp} {v : V} {n : Nat} (h : Dp K H v (numD n)) : v = numv n := by
  cases h
  rfl
theorem dp_num {K : PySem.W.Frag} {H : Hp} (n : Nat) : Dp K H (numv n) (numD n) := .int _
theorem dp_nums {K : PySem.W.Frag} {H : Hp} (ns : List Nat) : DpAll K H (ns.map numv) (ns.map numD) := by
  induction ns with
  | nil => exact .nil
  | cons n ns ih => exact .cons (dp_num n) ih
theorem dp_numsD {K : PySem.W.Frag} {H : Hp} {t : Addr} {ns : List Nat} (h : SqT K H t (ns.map numv)) : Dp K H (.ref t) (numsD ns) := .tup h (dp_nums ns)
theorem numsD_inv {K : PySem.W.Frag} {H : Hp} {v : V} {ns : List Nat} (h : Dp K H v (numsD ns)) : ∃ t, v = .ref t ∧ SqT K H t (ns.map numv) := by
  cases h with
  | tup hs ha =>
    rw [dpAll_inv (f := numD) (fv := numv) (fun _ _ _ h => numD_inv h) ha] at hs
    exact ⟨_, rfl, hs⟩
theorem flat_numD (n : Nat) : flatD (numD n) = true := rfl
theorem flat_numsD (ns : List Nat) : flatD (numsD ns) = true := flatDs_of _ fun d m => by
  obtain ⟨n, _, rfl⟩ := List.mem_map.mp m
  rfl
end Cm

namespace K32
open PySem L2 Cm
/-- what comes back: None, or data -/
def OptR (K : PySem.W.Frag) (H : Hp) (Q : VK) : Option PyData → Prop
  | none => ∀ H', Same H H' → Q .non H'
  | some d => ∀ v H', Same H H' → Dp K H' v d → Q v H'
theorem OptR.mono {K : PySem.W.Frag} {H H' : Hp} {Q : VK} {o : Option PyData} (h : OptR K H Q o) (s : Same H H') : OptR K H' Q o := by
  cases o with
  | none => exact fun H2 s2 => h H2 (s.trans s2)
  | some d => exact fun v H2 s2 q => h v H2 (s.trans s2) q
theorem OptR.imp {K : PySem.W.Frag} {H : Hp} {Q Q' : VK} {o : Option PyData} (h : OptR K H Q o) (q : ∀ v H', Q v H' → Q' v H') : OptR K H Q' o := by
  cases o with
  | none => exact fun H2 s2 => q _ _ (h H2 s2)
  | some d => exact fun v H2 s2 z => q _ _ (h v H2 s2 z)
/-- words of a line -/
def Wds (ws : List Str) : Prop := ws.length ≤ 90000 ∧ ∀ w ∈ ws, w.length ≤ LW
theorem Wds.drop {ws : List Str} (h : Wds ws) (k : Nat) : Wds (ws.drop k) := ⟨by have := h.1; rw [List.length_drop]; omega, fun w m => h.2 w (List.mem_of_mem_drop m)⟩
def spNumsOf (K : PySem.W.Frag) : Sp := fun vs H Q _ => ∃ (a : Addr) (ws : List Str), vs = [.ref a] ∧ SqL K H a (ws.map V.str) ∧ Wds ws ∧ OptR K H Q ((numsW ws).map numsD)
def spItemOf (K : PySem.W.Frag) : Sp := fun vs H Q _ => ∃ (s : Sh) (w : Str), vs = [.str (shName s), .str w] ∧ w.length ≤ LW ∧ OptR K H Q ((itemOf s w).map It5.enc)
def pairsD (ps : List (Nat × List Nat)) : PyData := .tuple (ps.map pairD)
def spPairsOf (K : PySem.W.Frag) : Sp := fun vs H Q _ => ∃ (a : Addr) (ws : List Str), vs = [.ref a] ∧ SqL K H a (ws.map V.str) ∧ Wds ws ∧ OptR K H Q ((pairsOf ws).map pairsD)
theorem nums_vals : ∀ {ws : List Str} {ns : List Nat}, numsW ws = some ns → ws.map (fun w => numV (numOf w)) = ns.map numv
  | [], _, h => by cases h; rfl
  | w :: ws, ns, h => by
    have h' : (match numOf w, numsW ws with
      | some n, some ns => some (n :: ns)
      | _, _ => none) = some ns := h
    split at h'
    · rename_i n ms e1 e2
      cases h'
      show numV (numOf w) :: ws.map (fun w => numV (numOf w)) = _
      rw [e1, nums_vals e2]
      rfl
    · cases h'
theorem nums_none : ∀ (ws : List Str), inV .non (ws.map fun w => numV (numOf w)) = (numsW ws).isNone
  | [] => rfl
  | w :: ws => by
    have ih := nums_none ws
    show (eqV (numV (numOf w)) .non || inV .non (ws.map fun w => numV (numOf w))) = (match numOf w, numsW ws with
      | some n, some ns => some (n :: ns)
      | _, _ => none).isNone
    rw [ih]
    cases numOf w with
    | none => rfl
    | some n =>
      cases numsW ws with
      | none => rfl
      | some ns => rfl
theorem flat_numV (ws : List Str) : (ws.map fun w => numV (numOf w)).all flatV = true := by
  rw [List.all_eq_true]
  intro x hx
  obtain ⟨w, _, rfl⟩ := List.mem_map.mp hx
  cases numOf w <;> rfl
section
variable {P : Program} {w : World} {K : PySem.W.Frag} {mg : Str → Option Value} {base : Heap}
abbrev s_p_numbers_of : Stmt := top 46
abbrev N_p_numbers_of : List Str := ["words", "numbers", "word"]
theorem sc_p_numbers_of : FnScope N_p_numbers_of ["words"] (defScope s_p_numbers_of) := ⟨rfl, rfl, rfl, by decide +kernel, rfl, by decide +kernel, by decide +kernel⟩
theorem ok_numbers_of (T : Txt mg) (c_p_number_of : Cl P w K mg base 1 "_number_of" spNumOf) (D : At K mg "_numbers_of" s_p_numbers_of ["words"]) : Cl P w K mg base 2 "_numbers_of" (spNumsOf K) := by
  refine cl_of D sc_p_numbers_of (fun vs H Q E h => ?_) fun f cdv A outer s H vs Q E hr h => ?_
  · obtain ⟨a, ws, rfl, _⟩ := h
    rfl
  · obtain ⟨a, ws, rfl, ha, hw, k⟩ := h
    refine ⟨_, (pss_cons (ps_set (i := 1) sc_p_numbers_of.nd rfl (Or.inl rfl) (pe_tupleOf (by rfl) T.tuple (pe_lc (own := [("word", 2)]) rfl sc_p_numbers_of.nd (pi_list (pv 0)) (blkOk_by (N := N_p_numbers_of) (sc := defScope s_p_numbers_of) (by decide +kernel))
      (fun _ _ _ _ _ => (pg_name (i := 2) sc_p_numbers_of.nd rfl (Or.inl rfl)))
      (fun _ _ _ _ _ => pts_nil)
      (fun _ _ _ _ _ => (pe_c c_p_number_of hr (by decide) (by rfl) (pa_cons (pv 2) pa_nil))))))
      (pss_one (ps_ret (pe_ifExp (pt_cmpR op_in_seq pe_non (pv 1) (by rfl)) pe_non (pv 1))))), ?_⟩
    refine ⟨_, rfl, a, rfl, ⟨_, ha⟩, fun D1 hD1 => ?_⟩
    refine lc_mapF (K := K) ws V.str (fun w => numvD (numOf w)) (fun w => numV (numOf w)) (fun x => by cases numOf x <;> rfl) (fun H v x h => by
      revert h
      cases numOf x with
      | none => intro h; cases h; rfl
      | some n => intro h; cases h; rfl) walk_list hD1 (by have := hw.1; omega) (fun H' s => s.seq ha) (fun x H1 m s1 Q1 Q0 q1 => ?_) (fun H1 s1 hD2 => ?_)
    · refine ⟨rfl, ?_⟩
      refine ⟨_, rfl, x, rfl, hw.2 x m, q1 _ _ (Same.refl _) ?_⟩
      cases numOf x with
      | none => exact .non
      | some n => exact .int _
    · refine .inl ⟨D1, _, rfl, .inl (.inl hD2), fun q hq => ?_⟩
      have hT : SqT K (upd H1 q (.tup (ws.map fun w => numV (numOf w)))) q (ws.map fun w => numV (numOf w)) := .inl (.inl upd_same)
      have sm := s1.trans (same_new (o := .tup (ws.map fun w => numV (numOf w))) hq)
      refine ⟨_, rfl, q, _, rfl, .inr hT, rfl, flat_numV ws, _, rfl, ?_⟩
      show if inV .non (ws.map fun w => numV (numOf w)) = true then _ else _
      rw [nums_none]
      cases e : numsW ws with
      | none =>
        rw [e] at k
        exact iteT (k _ sm)
      | some ns =>
        rw [e] at k
        rw [nums_vals e] at hT sm ⊢
        exact iteF ⟨_, rfl, k _ _ sm (dp_numsD hT)⟩
abbrev s_p_item_of : Stmt := top 44
abbrev N_p_item_of : List Str := ["shape", "word"]
theorem sc_p_item_of : FnScope N_p_item_of ["shape", "word"] (defScope s_p_item_of) := ⟨rfl, rfl, rfl, by decide +kernel, rfl, by decide +kernel, by decide +kernel⟩
theorem ok_item_of (T : Txt mg) (G : Glb K w mg) (c_p_is_number : Cl P w K mg base 1 "is_number" spIsNum) (c_p_is_op : Cl P w K mg base 1 "is_op" spIsOp) (c_p_number_of : Cl P w K mg base 1 "_number_of" spNumOf)
    (D : At K mg "_item_of" s_p_item_of ["shape", "word"]) : Cl P w K mg base 2 "_item_of" (spItemOf K) := by
  refine cl_of D sc_p_item_of (fun vs H Q E h => ?_) fun f cdv A outer s H vs Q E hr h => ?_
  · obtain ⟨s, x, rfl, _⟩ := h
    rfl
  · obtain ⟨s, x, rfl, hx, k⟩ := h
    obtain ⟨ca, hca, sc⟩ := G.cn
    refine ⟨_, (pss_cons (ps_if (pt_cmpR op_eq (pv 0) pe_str (nomark _))
        (pss_one (ps_ret (pe_ifExp (pt_val (pe_c c_p_is_op hr (by decide) (by rfl) (pa_cons (pv 1) pa_nil))) (pv 1) pe_non)))
        pss_nil)
      (pss_cons (ps_if (pt_cmpR op_eq (pv 0) pe_str (nomark _))
        (pss_one (ps_ret (pe_c c_p_number_of hr (by decide) (by rfl) (pa_cons (pv 1) pa_nil))))
        pss_nil)
      (pss_cons (ps_if (pt_cmpR op_in_seq (pv 1) (pe_glob (v := .ref ca) (by rfl) hca rfl) (by rfl))
        (pss_one (ps_ret (pe_tup (pa_cons (pv 1) pa_nil))))
        pss_nil)
      (pss_one (ps_ret (pe_ifExp (pt_val (pe_c c_p_is_number hr (by decide) (by rfl) (pa_cons (pv 1) pa_nil))) (pe_callTy call_int_str (by rfl) T.int (by decide +kernel) (pa_cons (pv 1) pa_nil)) pe_non)))))), ?_⟩
    refine ⟨_, rfl, rfl, _, rfl, ?_⟩
    rw [decS]
    by_cases hop : s = .op
    · subst hop
      rw [decide_eq_true (show shName .op = "op" from rfl)]
      refine iteT ⟨_, rfl, x, rfl, _, rfl, ?_⟩
      have e : itemOf .op x = if x ∈ opsW then some (.o x) else none := rfl
      rw [e] at k
      by_cases m : x ∈ opsW
      · rw [if_pos m] at k
        rw [decide_eq_true m]
        exact iteT ⟨_, rfl, k _ _ (Same.refl _) (.str _)⟩
      · rw [if_neg m] at k
        rw [decide_eq_false m]
        exact iteF (k _ (Same.refl _))
    rw [decide_eq_false (show ¬ shName s = "op" by cases s <;> first | exact absurd rfl hop | decide)]
    refine iteF ⟨_, rfl, rfl, _, rfl, ?_⟩
    rw [decS]
    by_cases hnum : s = .num
    · subst hnum
      rw [decide_eq_true (show shName .num = "number" from rfl)]
      refine iteT ⟨_, rfl, x, rfl, hx, ?_⟩
      have e : itemOf .num x = (numOf x).map It5.n := rfl
      rw [e] at k
      cases en : numOf x with
      | none =>
        rw [en] at k
        exact k _ (Same.refl _)
      | some n =>
        rw [en] at k
        exact k _ _ (Same.refl _) (.int _)
    rw [decide_eq_false (show ¬ shName s = "number" by cases s <;> first | exact absurd rfl hnum | decide)]
    have e : itemOf s x = (if x ∈ consW then some (.c x) else (valOf x).map .v) := by cases s <;> first | exact absurd rfl hnum | exact absurd rfl hop | rfl
    rw [e] at k
    refine iteF ⟨_, rfl, ca, _, rfl, .inr (sc _), rfl, flat_strV _, _, rfl, ?_⟩
    show if inV (.str x) (consW.map V.str) = true then _ else _
    rw [in_words]
    by_cases m : x ∈ consW
    · rw [if_pos m] at k
      rw [decide_eq_true m]
      refine iteT ⟨_, rfl, by show 1 ≤ sizeLine; decide, fun t2 ht2 => ?_⟩
      exact k _ _ (same_new ht2) (.tup (.inl (.inl upd_same)) (.cons (.str _) .nil))
    · rw [if_neg m] at k
      rw [decide_eq_false m]
      refine iteF ⟨_, rfl, x, rfl, hx, _, rfl, ?_⟩
      cases ev : valOf x with
      | none =>
        rw [ev] at k
        exact iteF (k _ (Same.refl _))
      | some i =>
        rw [ev] at k
        obtain ⟨rfl, hi⟩ := valOf_inv ev
        refine iteT ⟨_, rfl, _, i, rfl, num_int hi, by have := num_len hi; omega, k _ _ (Same.refl _) (.int _)⟩
end
end K32

namespace K32
open PySem L2 Cm
theorem while_rel {c : TT} {tb : TS} {D : Ends} {σ : L2.St} {H : Hp} (W : Nat → L2.St → Hp → Prop) (h0 : ∃ m, W m σ H)
    (hs : ∀ m σ H, W m σ H → c σ H fun b H1 => if b = true then tb { D with nx := fun σ' H' => ∃ m', m' < m ∧ W m' σ' H', ct := fun σ' H' => ∃ m', m' < m ∧ W m' σ' H', bk := D.nx } σ H1 else D.nx σ H1)
    (mono : ∀ σ H Q Q', (∀ b H1, Q b H1 → Q' b H1) → c σ H Q → c σ H Q') : tWhile c tb D σ H := by
  refine ⟨W, h0, fun m σ H p => mono σ H _ _ (fun b H1 q => ?_) (hs m σ H p)⟩
  cases b with
  | true => exact ⟨_, fun σ' H' z => z, q⟩
  | false => exact q
theorem empty_map {α β : Type} (f : α → β) (l : List α) : (l.map f).isEmpty = l.isEmpty := by cases l <;> rfl
theorem dp_pair {K : PySem.W.Frag} {H : Hp} {t p : Addr} {n : Nat} {ks : List Nat} (hp : SqT K H p [numv n, .ref t]) (ht : SqT K H t (ks.map numv)) : Dp K H (.ref p) (pairD (n, ks)) :=
  .tup hp (.cons (.int _) (.cons (dp_numsD ht) .nil))
theorem flat_pairD (p : Nat × List Nat) : flatD (pairD p) = true := by
  show flatDs [numD p.1, numsD p.2] = true
  exact flatDs_of _ fun d m => by
    rcases List.mem_cons.mp m with rfl | m
    · rfl
    · rw [List.mem_singleton.mp m]
      exact flat_numsD _
theorem flat_pairsD (ps : List (Nat × List Nat)) : flatDs (ps.map pairD) = true := flatDs_of _ fun d m => by
  obtain ⟨p, _, rfl⟩ := List.mem_map.mp m
  exact flat_pairD p
theorem cut_mid {xs : List V} {a b : Nat} (h1 : a ≤ xs.length) (h2 : a + b ≤ xs.length) : cutV xs (some (a : Int)) (some ((a + b : Nat) : Int)) = (xs.drop a).take b := by
  unfold cutV
  rw [HT.sIx_nat, HT.sIx_nat, Nat.min_eq_left h1, Nat.min_eq_left h2]
  congr 1
  omega
section
variable {P : Program} {w : World} {K : PySem.W.Frag} {mg : Str → Option Value} {base : Heap}
abbrev s_p_pairs_of : Stmt := top 47
abbrev N_p_pairs_of : List Str := ["words", "numbers", "pairs", "end"]
theorem sc_p_pairs_of : FnScope N_p_pairs_of ["words"] (defScope s_p_pairs_of) := ⟨rfl, rfl, rfl, by decide +kernel, rfl, by decide +kernel, by decide +kernel⟩
theorem ok_pairs_of (T : Txt mg) (c_p_numbers_of : Cl P w K mg base 2 "_numbers_of" (spNumsOf K)) (D : At K mg "_pairs_of" s_p_pairs_of ["words"]) : Cl P w K mg base 3 "_pairs_of" (spPairsOf K) := by
  refine cl_of D sc_p_pairs_of (fun vs H Q E h => ?_) fun f cdv A outer s H vs Q E hr h => ?_
  · obtain ⟨a, ws, rfl, _⟩ := h
    rfl
  · obtain ⟨a, ws, rfl, ha, hw, k⟩ := h
    refine ⟨_, (pss_cons (ps_set (i := 1) sc_p_pairs_of.nd rfl (Or.inl rfl) (pe_c c_p_numbers_of hr (by decide) (by rfl) (pa_cons (pv 0) pa_nil)))
      (pss_cons (ps_if (pt_not (pt_truth (pv 1) (by intro _; rfl)))
        (pss_one (ps_ret pe_non))
        pss_nil)
      (pss_cons (ps_set (i := 2) sc_p_pairs_of.nd rfl (Or.inl rfl) (pe_lst pa_nil))
      (pss_cons (ps_while PassesOwn.never (pt_truth (pv 1) (by intro _; rfl))
        (pss_cons (ps_if (PW.pt (pw_or (pt_cmpR op_lt (pe_callB call_len_seq (by rfl) T.len (by decide +kernel) (pa_cons (pv 1) pa_nil)) pe_int (nomark _)) (pw_or1 (pt_cmpR op_lt (pe_op op_sub (pe_callB call_len_seq (by rfl) T.len (by decide +kernel) (pa_cons (pv 1) pa_nil)) pe_int) (pe_ix ix_tup (pv 1) pe_int (fun _ _ => rfl)) (nomark _)))))
          (pss_one (ps_ret pe_non))
          pss_nil)
        (pss_cons (ps_set (i := 3) sc_p_pairs_of.nd rfl (Or.inl rfl) (pe_op op_add pe_int (pe_ix ix_tup (pv 1) pe_int (fun _ _ => rfl))))
        (pss_cons (ps_expr (pe_bm PySem.F.plainAttrs_list PySem.F.slot_list_append PySem.F.type_list_append mt_append (pv 2) (pa_cons (pe_tup (pa_cons (pe_ix ix_tup (pv 1) pe_int (fun _ _ => rfl)) (pa_cons (pe_slice sl_tupA (pv 1) (po_some pe_int) (po_some (pv 3))) pa_nil))) pa_nil)))
        (pss_one (ps_set (i := 1) sc_p_pairs_of.nd rfl (Or.inl rfl) (pe_slice sl_tupA (pv 1) (po_some (pv 3)) po_none)))))))
      (pss_one (ps_ret (pe_tupleOf (by rfl) T.tuple (pv 2)))))))), ?_⟩
    refine ⟨_, rfl, a, ws, rfl, ha, hw, ?_⟩
    unfold pairsOf at k
    cases e : numsW ws with
    | none =>
      rw [e] at k
      intro H1 s1
      exact ⟨_, rfl, false, rfl, iteT (k _ s1)⟩
    | some ns =>
      rw [e] at k
      intro v H1 s1 hv
      obtain ⟨t, rfl, ht⟩ := numsD_inv hv
      refine ⟨_, rfl, !(ns.map numv).isEmpty, .inr (.inl ⟨_, ht, rfl⟩), ?_⟩
      rw [empty_map]
      have hlen : ns.length = ws.length := by
        have := congrArg List.length (nums_inv e).1
        simpa using this
      cases q : ns with
      | nil =>
        rw [q] at k
        exact iteT (k _ s1)
      | cons n0 r0 =>
        rw [q] at k
        replace k : OptR K H Q ((pairsF (n0 :: r0).length (n0 :: r0)).map pairsD) := k
        rw [← q] at k ⊢
        have q1 : ns.isEmpty = false := by rw [q]; rfl
        rw [q1]
        refine iteF ⟨by show 0 ≤ sizeLine; decide, fun L hL => ?_⟩
        have hLH : H L = none := free_of s1 hL
        unfold gName
        dsimp only
        unfold tSeq
        dsimp only
        refine while_rel (fun m σ H' => ∃ (t : Addr) (ns' : List Nat) (ps : List (Nat × List Nat)) (vs : List V) (f : Nat) (x3 : Option V), σ = [some (.ref a), some (.ref t), some (.ref L), x3] ∧ m = ns'.length ∧ SqT K H' t (ns'.map numv) ∧
          H' L = some (.lst vs) ∧ DpAll K H' vs (ps.map pairD) ∧ Same H H' ∧ ns'.length ≤ f ∧ pairsF ns.length ns = (pairsF f ns').map (ps ++ ·) ∧ ps.length + ns'.length ≤ 90000) ?_ ?_ ?_
        · refine ⟨_, t, ns, [], [], ns.length, none, rfl, rfl, sqt_same (same_new hL) ht, upd_same, .nil, s1.trans (same_new hL), Nat.le_refl _, ?_, ?_⟩
          · cases pairsF ns.length ns <;> rfl
          · have := hw.1
            simp
            omega
        · rintro m σ H2 ⟨t2, ns', ps, vs, f2, x3, rfl, rfl, ht2, hL2, hv2, s2, hf2, ek, hsz⟩
          refine ⟨_, rfl, !(ns'.map numv).isEmpty, .inr (.inl ⟨_, ht2, rfl⟩), ?_⟩
          rw [empty_map]
          cases ns' with
          | nil =>
            refine iteF ?_
            have e2 : pairsF f2 [] = some [] := by cases f2 <;> rfl
            rw [e2] at ek
            have e3 : pairsF ns.length ns = some ps := by rw [ek]; simp
            rw [e3] at k
            refine ⟨_, rfl, .inl ⟨L, vs, rfl, .inl (.inl hL2), fun p hp => ?_⟩⟩
            exact k _ _ (s2.trans (same_new hp)) (.tup (.inl (.inl upd_same)) (dps_same (same_new hp) _ _ hv2))
          | cons b r =>
            refine iteT ?_
            have hl1 : ((b :: r).map numv).length = r.length + 1 := by rw [List.length_map]; rfl
            refine ⟨_, rfl, t2, _, rfl, .inr ht2, _, _, rfl, rfl, _, rfl, ?_⟩
            rw [hl1]
            cases r with
            | nil =>
              refine iteT ?_
              have e2 : pairsF f2 [b] = none := by cases f2 <;> rfl
              rw [e2] at ek
              rw [show pairsF ns.length ns = none from ek] at k
              exact k _ s2
            | cons c r =>
              rw [decide_eq_false (show ¬ (((c :: r).length + 1 : Nat) : Int) < 2 by rw [List.length_cons]; omega)]
              refine iteF ⟨_, rfl, t2, _, rfl, .inr ht2, _, _, rfl, rfl, _, rfl, t2, _, _, _, rfl, rfl, ht2, atI_nat (j := 1) rfl, _, _, rfl, rfl, _, rfl, ?_⟩
              obtain ⟨f3, rfl⟩ : ∃ f3, f2 = f3 + 1 := ⟨f2 - 1, by rw [List.length_cons] at hf2; omega⟩
              have ef : pairsF (f3 + 1) (b :: c :: r) = if r.length < c then none else match pairsF f3 (r.drop c) with
                | some ps => some ((b, r.take c) :: ps)
                | none => none := rfl
              rw [ef] at ek
              have hl3 : ((((b :: c :: r).map numv).length : Nat) : Int) - 2 = (r.length : Int) := by
                rw [List.length_map, List.length_cons, List.length_cons]
                omega
              show if decide (((((b :: c :: r).map numv).length : Nat) : Int) - 2 < (c : Int)) = true then _ else _
              rw [hl3]
              by_cases hc : r.length < c
              · rw [decide_eq_true (show (r.length : Int) < (c : Int) by omega)]
                refine iteT ?_
                rw [if_pos hc] at ek
                rw [show pairsF ns.length ns = none from ek] at k
                exact k _ s2
              · rw [decide_eq_false (show ¬ (r.length : Int) < (c : Int) by omega)]
                rw [if_neg hc] at ek
                refine iteF ⟨_, rfl, t2, _, _, _, rfl, rfl, ht2, atI_nat (j := 1) rfl, _, _, rfl, rfl, ?_⟩
                have hk2 : ((2 : Int) + (c : Int)) = ((2 + c : Nat) : Int) := by omega
                have hlx : ((b :: c :: r).map numv).length = r.length + 2 := by rw [List.length_map]; rfl
                have hcm : cutV ((b :: c :: r).map numv) (some (2 : Int)) (some ((2 : Int) + (c : Int))) = (r.take c).map numv := by
                  rw [hk2, show (2 : Int) = ((2 : Nat) : Int) from rfl, cut_mid (by rw [hlx]; omega) (by rw [hlx]; omega), List.map_take]
                  rfl
                have hcd : cutV ((b :: c :: r).map numv) (some ((2 : Int) + (c : Int))) Option.none = (r.drop c).map numv := by
                  rw [hk2, cut_from (by rw [hlx]; omega), Nat.add_comm, List.map_drop]
                  rfl
                have z0 : ∀ hi, ¬ (HT.sIx ((b :: c :: r).map numv).length 0 (some (2 : Int)) = 0 ∧ hi) := fun hi q => by
                  have q1 := q.1
                  rw [show (2 : Int) = ((2 : Nat) : Int) from rfl, HT.sIx_nat, hlx, Nat.min_eq_left (by omega)] at q1
                  cases q1
                have z1 : ∀ hi, ¬ (HT.sIx ((b :: c :: r).map numv).length 0 (some ((2 : Int) + (c : Int))) = 0 ∧ hi) := fun hi q => by
                  have q1 := q.1
                  rw [hk2, HT.sIx_nat, hlx, Nat.min_eq_left (by omega)] at q1
                  omega
                have hbt := hsz
                rw [List.length_cons, List.length_cons] at hbt
                have hvl : vs.length = ps.length := by rw [Cm.DpAll.len hv2, List.length_map]
                refine ⟨_, rfl, .inl ⟨rfl, _, .inl (.inl hL2)⟩, _, rfl, t2, _, _, _, rfl, rfl, ht2, atI_nat (j := 0) rfl, _, rfl, _, rfl, _, rfl, _, rfl, t2, _, rfl, ht2, fun q => absurd q (z0 _), fun _ p hp => ?_⟩
                rw [hcm]
                have sp := same_new (o := .tup ((r.take c).map numv)) hp
                refine ⟨by show 2 ≤ sizeLine; decide, fun p2 hp2 => ?_⟩
                have sp2 := same_new (o := .tup [numv b, .ref p]) hp2
                have hL3 := sp2 _ _ (sp _ _ hL2)
                refine ⟨L, vs, _, rfl, rfl, hL3, Nat.lt_of_le_of_lt (show vs.length ≤ 90000 by omega) (by decide), ?_⟩
                have s3 : Same H _ := s2.trans (sp.trans sp2)
                have s4 := same_put (o := .lst (vs ++ [.ref p2])) s3 hLH
                have ht4 : SqT K _ t2 ((b :: c :: r).map numv) := sqt_put (zs := vs ++ [.ref p2]) hL3 (sqt_same (sp.trans sp2) ht2)
                have hpair : Dp K _ (.ref p2) (pairD (b, r.take c)) := dp_pair (sqt_put (zs := vs ++ [.ref p2]) hL3 (.inl (.inl upd_same))) (sqt_put (zs := vs ++ [.ref p2]) hL3 (sqt_same sp2 (.inl (.inl upd_same))))
                have hv4 := DpAll.snoc hpair (dps_keep (fun _ _ q => sqt_put (zs := vs ++ [.ref p2]) hL3 q) _ _ (flat_pairsD ps) (dps_same (sp.trans sp2) _ _ hv2))
                refine ⟨_, rfl, _, rfl, _, rfl, t2, _, rfl, ht4, fun q => absurd q (z1 _), fun _ p3 hp3 => ?_⟩
                rw [hcd]
                have sp3 := same_new (o := .tup ((r.drop c).map numv)) hp3
                refine ⟨(r.drop c).length, by rw [List.length_drop, List.length_cons, List.length_cons]; omega, p3, r.drop c, ps ++ [(b, r.take c)], _, f3, _, rfl, rfl, .inl (.inl upd_same), sp3 _ _ upd_same, ?_, s4.trans sp3, ?_, ?_, ?_⟩
                · rw [List.map_append]
                  exact dps_same sp3 _ _ hv4
                · rw [List.length_drop]
                  rw [List.length_cons, List.length_cons] at hf2
                  omega
                · rw [ek]
                  cases pairsF f3 (r.drop c) with
                  | none => rfl
                  | some qs => simp
                · rw [List.length_append, List.length_singleton, List.length_drop]
                  omega
        · rintro σ H Q Q' h ⟨x, hx, b, hb, q⟩
          exact ⟨x, hx, b, hb, h _ _ q⟩
end
end K32

namespace K32
open PySem L2 Cm
def spRowOf (K : PySem.W.Frag) : Sp := fun vs H Q _ => ∃ (a : Addr) (x : Str) (ws : List Str), vs = [.ref a] ∧ SqL K H a ((x :: ws).map V.str) ∧ Wds (x :: ws) ∧ OptR K H Q ((rowOf x ws).map Rw.enc)
theorem flat_enc (i : It5) : flatD i.enc = true := by
  cases i with
  | n k => rfl
  | c w => rfl
  | v i => rfl
  | o w => rfl
  | cs ks => exact flat_numsD ks
  | ps xs => exact flat_pairsD xs
theorem flat_encs (is : List It5) : flatDs (is.map It5.enc) = true := flatDs_of _ fun d m => by
  obtain ⟨i, _, rfl⟩ := List.mem_map.mp m
  exact flat_enc i
theorem flat_rw (r : Rw) : flatD r.enc = true := by
  show flatDs (.str r.w :: r.its.map It5.enc) = true
  show (flatD (.str r.w) && flatDs (r.its.map It5.enc)) = true
  rw [flat_encs]
  rfl
/-- no item is None -/
theorem enc_not {K : PySem.W.Frag} {H : Hp} {v : V} {i : It5} (h : Dp K H v i.enc) : decide (v = V.non) = false := by
  refine decide_eq_false fun z => ?_
  subst z
  cases i <;> cases h
theorem shape_in : ∀ r ∈ shapesL, shapeOf r.1 = some r.2 := by decide +kernel
theorem shape_out {x : Str} (h : x ∉ shapesL.map (·.1)) : shapeOf x = none := by
  unfold shapeOf
  iterate 17 rw [if_neg fun e => h (by rw [e]; decide +kernel)]
theorem shapesT_keys : shapesT.map (·.1) = shapesL.map (·.1) := rfl
/-- a row of shapes, at its place -/
theorem items_cells (ss : List Sh) (ws : List Str) : items (.cells :: ss) ws = match numsW ws with
    | none => none
    | some ks => (items ss []).map fun p => (.cs ks :: p.1, p.2) := rfl
theorem items_pairs (ss : List Sh) (ws : List Str) : items (.pairs :: ss) ws = match pairsOf ws with
    | none => none
    | some ks => (items ss []).map fun p => (.ps ks :: p.1, p.2) := rfl
section
variable {P : Program} {w : World} {K : PySem.W.Frag} {mg : Str → Option Value} {base : Heap}
abbrev s_p_row_of : Stmt := top 42
abbrev N_p_row_of : List Str := ["words", "row", "left", "shape", "item"]
theorem sc_p_row_of : FnScope N_p_row_of ["words"] (defScope s_p_row_of) := ⟨rfl, rfl, rfl, by decide +kernel, rfl, by decide +kernel, by decide +kernel⟩
theorem ok_row_of (T : Txt mg) (G : Glb K w mg) (c_p_numbers_of : Cl P w K mg base 2 "_numbers_of" (spNumsOf K)) (c_p_pairs_of : Cl P w K mg base 3 "_pairs_of" (spPairsOf K)) (c_p_item_of : Cl P w K mg base 2 "_item_of" (spItemOf K))
    (D : AtN K mg "_row_of" "row_of_jumptext" s_p_row_of ["words"]) : Cl P w K mg base 4 "row_of_jumptext" (spRowOf K) := by
  refine cl_ofN D sc_p_row_of (fun vs H Q E h => ?_) fun f cdv A outer s H vs Q E hr h => ?_
  · obtain ⟨a, x, ws, rfl, _⟩ := h
    rfl
  · obtain ⟨a, x, ws, rfl, ha, hw, k⟩ := h
    obtain ⟨sa, es, n, hsa, DS, nsn, nss⟩ := G.sl
    refine ⟨_, (pss_cons (ps_if (pt_cmpR (op_notIn_kd DS) (pe_ix ix_list (pv 0) pe_int (fun _ _ => rfl)) (pe_glob (v := .ref sa) (by rfl) hsa rfl) (by rfl))
        (pss_one (ps_ret pe_non))
        pss_nil)
      (pss_cons (ps_set (i := 1) sc_p_row_of.nd rfl (Or.inl rfl) (pe_lst (pa_cons (pe_ix ix_list (pv 0) pe_int (fun _ _ => rfl)) pa_nil)))
      (pss_mid (ps_set (i := 2) sc_p_row_of.nd rfl (Or.inl rfl) (pe_slice sl_list (pv 0) (po_some pe_int) po_none))
      (pss_cons (ps_for PassesOwn.never rfl (pi_tup (pe_ix ix_kdict (pe_glob (v := .ref sa) (by rfl) hsa rfl) (pe_ix ix_list (pv 0) pe_int (fun _ _ => rfl)) (fun _ _ => rfl))) (pg_name (i := 3) sc_p_row_of.nd rfl (Or.inl rfl))
        (pss_mid (ps_if (PW.pt (pw_or (pt_cmpR op_eq (pv 3) pe_str (nomark _)) (pw_or1 (pt_cmpR op_eq (pv 3) pe_str (nomark _)))))
          (pss_cons (ps_set (i := 4) sc_p_row_of.nd rfl (Or.inl rfl) (pe_ifExp (pt_cmpR op_eq (pv 3) pe_str (nomark _)) (pe_c c_p_numbers_of hr (by decide) (by rfl) (pa_cons (pv 2) pa_nil)) (pe_c c_p_pairs_of hr (by decide) (by rfl) (pa_cons (pv 2) pa_nil))))
          (pss_one (ps_set (i := 2) sc_p_row_of.nd rfl (Or.inl rfl) (pe_lst pa_nil))))
          (pss_one (ps_if (pt_truth (pv 2) (by intro _; rfl))
            (pss_cons (ps_set (i := 4) sc_p_row_of.nd rfl (Or.inl rfl) (pe_c c_p_item_of hr (by decide) (by rfl) (pa_cons (pv 3) (pa_cons (pe_ix ix_list (pv 2) pe_int (fun _ _ => rfl)) pa_nil))))
            (pss_one (ps_set (i := 2) sc_p_row_of.nd rfl (Or.inl rfl) (pe_slice sl_list (pv 2) (po_some pe_int) po_none))))
            (pss_one (ps_set (i := 4) sc_p_row_of.nd rfl (Or.inl rfl) pe_non)))))
        (pss_cons (ps_if (pt_cmpR op_isN (pv 4) pe_non (nomark _))
          (pss_one (ps_ret pe_non))
          pss_nil)
        (pss_one (ps_expr (pe_bm PySem.F.plainAttrs_list PySem.F.slot_list_append PySem.F.type_list_append mt_append (pv 1) (pa_cons (pv 4) pa_nil)))))))
      (pss_one (ps_ret (pe_ifExp (pt_not (pt_truth (pv 2) (by intro _; rfl))) (pe_tupleOf (by rfl) T.tuple (pv 1)) pe_non))))))), ?_⟩
    have a0 : atI ((x :: ws).map V.str) 0 = some (.str x) := atI_nat (j := 0) rfl
    unfold rowOf at k
    by_cases hx : x ∈ shapesT.map (·.1)
    · obtain ⟨r, hr1, rfl⟩ := List.mem_map.mp hx
      obtain ⟨tp, e, htp⟩ := nss r hr1
      obtain ⟨r2, hr2, rfl⟩ := List.mem_map.mp (show r ∈ shapesL.map fun r => (r.1, r.2.map shName) from hr1)
      obtain ⟨x, ss⟩ := r2
      have esh : shapeOf x = some ss := shape_in _ hr2
      rw [show shapeOf ((x, ss.map shName) : Str × List Str).1 = some ss from esh] at k
      replace k : OptR K H Q ((match items ss ws with
        | some (is, []) => some (⟨x, is⟩ : Rw)
        | _ => none).map Rw.enc) := k
      refine ⟨_, rfl, a, _, _, _, rfl, rfl, ha, a0, x, some (.ref tp), rfl, rfl, e, _, rfl, ?_⟩
      refine iteF ⟨_, rfl, a, _, _, _, rfl, rfl, ha, a0, by show 1 ≤ sizeLine; decide, fun L hL => ?_⟩
      have sL := same_new (o := .lst [.str x]) hL
      refine ⟨fun σ' H' => ∃ R, σ' = [some (.ref a), some (.ref L), some (.ref R), none, none] ∧ H' = upd (upd H L (.lst [.str x])) R (.lst (ws.map V.str)) ∧ upd H L (.lst [.str x]) R = none, ?_, ?_⟩
      · refine ⟨_, rfl, _, rfl, a, _, rfl, sL.seq ha, fun R hR => ?_⟩
        rw [show (1 : Int) = ((1 : Nat) : Int) from rfl, cut_from (by rw [List.length_map, List.length_cons]; omega)]
        exact ⟨R, rfl, rfl, hR⟩
      rintro σ' H' ⟨R, rfl, rfl, hR⟩
      have sR := same_new (o := .lst (ws.map V.str)) hR
      have sLR := sL.trans sR
      refine ⟨_, rfl, a, _, _, _, rfl, rfl, sLR.seq ha, a0, sa, x, .ref tp, rfl, rfl, ⟨es, n, _, DS.1, DS.lit, e, rfl⟩, tp, rfl, ⟨_, htp _⟩, ?_⟩
      have hlw : Wds ws := ⟨by have := hw.1; rw [List.length_cons] at this; omega, fun y m => hw.2 y (List.mem_cons_of_mem _ m)⟩
      have hLH : H L = none := hL
      refine for_it (walk_tup (K := K) (a := tp) (xs := (ss.map shName).map V.str)) (fun i σ H' => ∃ (R : Addr) (lws : List Str) (its : List It5) (vs : List V) (x3 x4 : Option V), σ = [some (.ref a), some (.ref L), some (.ref R), x3, x4] ∧
        H' L = some (.lst (.str x :: vs)) ∧ DpAll K H' vs (its.map It5.enc) ∧ its.length = i ∧ H' R = some (.lst (lws.map V.str)) ∧ R ≠ L ∧ Wds lws ∧ Same H H' ∧ items ss ws = (items (ss.drop i) lws).map (fun p => (its ++ p.1, p.2))) ?_ (fun _ _ _ _ _ => htp _) ?_ ?_
      · refine ⟨R, ws, [], [], none, none, rfl, sR _ _ upd_same, .nil, rfl, upd_same, fun z => ?_, hlw, sLR, ?_⟩
        · rw [z, upd_same] at hR
          cases hR
        · rw [List.drop_zero]
          cases items ss ws <;> rfl
      · rintro i v σ H1 H2 hi ⟨R1, lws, its, vs, x3, x4, rfl, hL1, hvs, hil, hR1, hne, hw1, s1, ek⟩ ⟨rfl, ev⟩
        rw [List.length_map, List.length_map] at hi
        have ev2 : some (V.str (shName ss[i])) = some v := by
          rw [← ev]
          simp [hi]
        obtain rfl := Option.some.inj ev2
        have edr : ss.drop i = ss[i] :: ss.drop (i + 1) := List.drop_eq_getElem_cons hi
        rw [edr] at ek
        generalize ss[i] = sh at ek
        generalize ss.drop (i + 1) = tl at ek
        refine ⟨fun σ' H' => ∃ (R2 : Addr) (lws2 : List Str) (v : V) (o : Option It5), σ' = [some (.ref a), some (.ref L), some (.ref R2), some (.str (shName sh)), some v] ∧ H' L = some (.lst (.str x :: vs)) ∧ H' R2 = some (.lst (lws2.map V.str)) ∧ R2 ≠ L ∧ Wds lws2 ∧ Same H2 H' ∧
          ((o = none ∧ v = .non ∧ items (sh :: tl) lws = none) ∨ ∃ it, o = some it ∧ Dp K H' v it.enc ∧ items (sh :: tl) lws = (items tl lws2).map (fun p => (it :: p.1, p.2))), ?_, ?_⟩
        · have emp : ∀ (R2 : Addr) (H' : Hp), Same H2 H' → H' R2 = none → R2 ≠ L := fun R2 H' s2 h0 z => by
            rw [z, s2 _ _ hL1] at h0
            cases h0
          have wnil : Wds [] := ⟨Nat.zero_le _, fun w m => by cases m⟩
          refine ⟨_, rfl, rfl, _, rfl, ?_⟩
          rw [decS]
          by_cases hc : sh = .cells
          · subst hc
            rw [decide_eq_true (show shName .cells = "cells" from rfl)]
            refine iteT ⟨_, rfl, rfl, _, rfl, ?_⟩
            rw [decS, decide_eq_true (show shName .cells = "cells" from rfl)]
            refine iteT ⟨_, rfl, R1, lws, rfl, .inl (.inl hR1), hw1, ?_⟩
            cases en : numsW lws with
            | none =>
              intro H' s2
              refine ⟨by show 0 ≤ sizeLine; decide, fun R2 hR2 => ?_⟩
              have sm := s2.trans (same_new (o := .lst []) hR2)
              refine ⟨R2, [], .non, none, rfl, sm _ _ hL1, upd_same, emp _ _ s2 hR2, wnil, sm, .inl ⟨rfl, rfl, ?_⟩⟩
              rw [items_cells, en]
            | some ks =>
              intro v H' s2 hv
              refine ⟨by show 0 ≤ sizeLine; decide, fun R2 hR2 => ?_⟩
              have sm := s2.trans (same_new (o := .lst []) hR2)
              refine ⟨R2, [], v, some (.cs ks), rfl, sm _ _ hL1, upd_same, emp _ _ s2 hR2, wnil, sm, .inr ⟨.cs ks, rfl, dp_same (same_new hR2) _ _ hv, ?_⟩⟩
              rw [items_cells, en]
          rw [decide_eq_false (show ¬ shName sh = "cells" by cases sh <;> first | exact absurd rfl hc | decide)]
          refine iteF ⟨_, rfl, rfl, _, rfl, ?_⟩
          rw [decS]
          by_cases hp : sh = .pairs
          · subst hp
            rw [decide_eq_true (show shName .pairs = "pairs" from rfl)]
            refine iteT ⟨_, rfl, rfl, _, rfl, ?_⟩
            rw [decS, decide_eq_false (show ¬ shName .pairs = "cells" by decide)]
            refine iteF ⟨_, rfl, R1, lws, rfl, .inl (.inl hR1), hw1, ?_⟩
            cases en : pairsOf lws with
            | none =>
              intro H' s2
              refine ⟨by show 0 ≤ sizeLine; decide, fun R2 hR2 => ?_⟩
              have sm := s2.trans (same_new (o := .lst []) hR2)
              refine ⟨R2, [], .non, none, rfl, sm _ _ hL1, upd_same, emp _ _ s2 hR2, wnil, sm, .inl ⟨rfl, rfl, ?_⟩⟩
              rw [items_pairs, en]
            | some ks =>
              intro v H' s2 hv
              refine ⟨by show 0 ≤ sizeLine; decide, fun R2 hR2 => ?_⟩
              have sm := s2.trans (same_new (o := .lst []) hR2)
              refine ⟨R2, [], v, some (.ps ks), rfl, sm _ _ hL1, upd_same, emp _ _ s2 hR2, wnil, sm, .inr ⟨.ps ks, rfl, dp_same (same_new hR2) _ _ hv, ?_⟩⟩
              rw [items_pairs, en]
          rw [decide_eq_false (show ¬ shName sh = "pairs" by cases sh <;> first | exact absurd rfl hp | decide)]
          refine iteF ⟨_, rfl, !(lws.map V.str).isEmpty, .inl ⟨_, .inl (.inl hR1), rfl⟩, ?_⟩
          rw [empty_map]
          cases lws with
          | nil =>
            refine iteF ?_
            refine ⟨R1, [], .non, none, rfl, hL1, hR1, hne, wnil, Same.refl _, .inl ⟨rfl, rfl, ?_⟩⟩
            cases sh <;> first | exact absurd rfl hc | exact absurd rfl hp | rfl
          | cons y lws =>
            refine iteT ⟨_, rfl, _, rfl, R1, _, _, _, rfl, rfl, .inl (.inl hR1), atI_nat (j := 0) rfl, sh, y, rfl, hw1.2 y List.mem_cons_self, ?_⟩
            have hw2 : Wds lws := hw1.drop 1
            have estep : items (sh :: tl) (y :: lws) = match itemOf sh y with
              | none => none
              | some i => (items tl lws).map fun p => (i :: p.1, p.2) := by cases sh <;> first | exact absurd rfl hc | exact absurd rfl hp | rfl
            have cut : cutV ((y :: lws).map V.str) (some (1 : Int)) Option.none = lws.map V.str := by
              rw [show (1 : Int) = ((1 : Nat) : Int) from rfl, cut_from (by rw [List.length_map, List.length_cons]; omega)]
              rfl
            cases en : itemOf sh y with
            | none =>
              intro H' s2
              refine ⟨_, rfl, _, rfl, R1, _, rfl, .inl (.inl (s2 _ _ hR1)), fun R2 hR2 => ?_⟩
              rw [cut]
              have sm := s2.trans (same_new (o := .lst (lws.map V.str)) hR2)
              refine ⟨R2, lws, .non, none, rfl, sm _ _ hL1, upd_same, emp _ _ s2 hR2, hw2, sm, .inl ⟨rfl, rfl, ?_⟩⟩
              rw [estep, en]
            | some it =>
              intro v H' s2 hv
              refine ⟨_, rfl, _, rfl, R1, _, rfl, .inl (.inl (s2 _ _ hR1)), fun R2 hR2 => ?_⟩
              rw [cut]
              have sm := s2.trans (same_new (o := .lst (lws.map V.str)) hR2)
              refine ⟨R2, lws, v, some it, rfl, sm _ _ hL1, upd_same, emp _ _ s2 hR2, hw2, sm, .inr ⟨it, rfl, dp_same (same_new hR2) _ _ hv, ?_⟩⟩
              rw [estep, en]
        · rintro σ' H' ⟨R2, lws2, v, o, rfl, hL2, hR2, hne2, hw2, s2, hor⟩
          refine ⟨_, rfl, rfl, _, rfl, ?_⟩
          rcases hor with ⟨rfl, rfl, ei⟩ | ⟨it, rfl, hv, ei⟩
          · rw [decide_eq_true rfl]
            refine iteT ?_
            rw [ei] at ek
            rw [show items ss ws = none from ek] at k
            exact k _ (s1.trans s2)
          · rw [enc_not hv]
            have hvl : vs.length = its.length := by rw [Cm.DpAll.len hvs, List.length_map]
            have hs17 : ss.length ≤ 3 := by
              have : ∀ r ∈ shapesL, r.2.length ≤ 3 := by decide +kernel
              exact this _ hr2
            refine iteF ⟨_, rfl, .inl ⟨rfl, _, .inl (.inl hL2)⟩, _, rfl, L, _, v, rfl, rfl, hL2, Nat.lt_of_le_of_lt (show (V.str x :: vs).length ≤ 4 by rw [List.length_cons]; omega) (by decide), ?_⟩
            refine ⟨R2, lws2, its ++ [it], vs ++ [v], _, _, rfl, upd_same, ?_, by rw [List.length_append, hil]; rfl, by rw [upd_ne hne2]; exact hR2, hne2, hw2, same_put (s1.trans s2) hLH, ?_⟩
            · rw [List.map_append]
              exact DpAll.snoc (dp_keep (fun _ _ q => sqt_put hL2 q) _ _ (flat_enc it) hv) (dps_keep (fun _ _ q => sqt_put hL2 q) _ _ (flat_encs its) (dps_same s2 _ _ hvs))
            · rw [ek, ei]
              cases items tl lws2 with
              | none => rfl
              | some p => simp
      · rintro σ H1 ⟨R1, lws, its, vs, x3, x4, rfl, hL1, hvs, hil, hR1, hne, hw1, s1, ek⟩
        rw [List.drop_of_length_le (by rw [List.length_map, List.length_map]; exact Nat.le_refl _)] at ek
        have ek2 : items ss ws = some (its, lws) := by rw [ek]; show some (its ++ [], lws) = _; rw [List.append_nil]
        rw [ek2] at k
        refine ⟨_, rfl, !(lws.map V.str).isEmpty, .inl ⟨_, .inl (.inl hR1), rfl⟩, ?_⟩
        rw [empty_map]
        cases lws with
        | cons y lws => exact iteF (k _ s1)
        | nil =>
          refine iteT ⟨_, rfl, .inl ⟨L, _, rfl, .inl (.inl hL1), fun p hp => ?_⟩⟩
          exact k _ _ (s1.trans (same_new hp)) (.tup (.inl (.inl upd_same)) (.cons (.str _) (dps_same (same_new hp) _ _ hvs)))
    · have es0 : shapeOf x = none := shape_out hx
      rw [es0] at k
      refine ⟨_, rfl, a, _, _, _, rfl, rfl, ha, a0, x, none, rfl, rfl, nsn _ hx, _, rfl, ?_⟩
      exact iteT (k _ (Same.refl _))
end
end K32

set_option linter.all false
/-! classes of the text: made by name, == by their own def with either answer; how many unlike texts a list has -/
namespace Cm
open PySem L2 PySem.Spec PyProof.Rows
/-- a class of the text and what its making promises -/
structure MkC (P : Program) (w : World) (K : PySem.W.Frag) (mg : Str → Option Value) (base : Heap) (k : Nat) (x : Str) (C : Addr) (sp : Sp) : Prop where
  ex : ∃ (f : Addr) (fd : FuncData) (ps : List Str), FnOk P w K mg base CX0 k f fd ps sp ∧ L2.Mk K C f ∧ mg x = some (.ref C) ∧ Binds K fd ps []
section
variable {X : Cx} {j k : Nat} {x : Str} {C : Addr} {sp : Sp} {e : Expr} {es : List Expr} {t : TA} {p pos : Pos}
theorem pe_mkC (c : MkC X.prog X.w X.K X.mg X.base k x C sp) (hr : Room j X.A) (hk : k + 1 ≤ j) (hg : Gl X x) (ha : PA X (e :: es) t)
    (hdb : (x == ("__debug__" : Str)) = false := by decide) (he : starEach (e :: es) X.env = (false, eval e X.env) :: starEach es X.env := by rfl)
    (hpl : (backTo pos (starEach es X.env)).any (·.1) = false := by rfl) : PE X (.Call (.Name x p) (e :: es) [] pos) (tMake C sp [] E0 t) := by
  obtain ⟨f, fd, ps, F, M, hm, b⟩ := c.ex
  exact pe_make M F (hr.mono hk) hg hm b .nil pass0 ha hdb he hpl
end
/-- the own == of a class -/
structure EqC (P : Program) (w : World) (K : PySem.W.Frag) (mg : Str → Option Value) (base : Heap) (k : Nat) (C : Addr) (sp : Sp) : Prop where
  ex : ∃ (f : Addr) (fd : FuncData) (ps : List Str), FnOk P w K mg base CX0 k f fd ps sp ∧ PySem.W.findIn K (.ref C) "__eq__" = some (some (.ref f)) ∧ PySem.W.isFn K (.ref f) = true ∧ Binds K fd ps []
def rEqO (C : Addr) (sp : Sp) : R2 := fun x y H Q => ∃ (a b dx dy : Addr) (fs gs : List (Str × V)), x = .ref a ∧ y = .ref b ∧ H a = some (.ins C dx fs) ∧ H b = some (.ins C dy gs) ∧ sp [.ref a, .ref b] H (fun v H' => ∃ k, v = .bl k ∧ Q (.bl k) H') E0
theorem op_eqO {X : Cx} {j k : Nat} {C : Addr} {sp : Sp} (c : EqC X.prog X.w X.K X.mg X.base k C sp) (hr : Room j X.A) (hk : k ≤ j) : OpR X (compareOp .Eq) (rEqO C sp) := by
  obtain ⟨f, fd, ps, F, hs, hf, hb⟩ := c.ex
  intro pins s σ H x y v u Q I rx ry hq
  obtain ⟨a, b, dx, dy, fs, gs, rfl, rfl, ha, hb', hsp⟩ := hq
  cases rx
  cases ry
  obtain ⟨mA, J, _⟩ := ins_get I.hok ha
  obtain ⟨mB, J', _⟩ := ins_get I.hok hb'
  obtain ⟨od, J, _⟩ := J.look
  obtain ⟨od', J', _⟩ := J'.look
  obtain ⟨m, hF⟩ := I.fr
  show wpAny (model X.prog X.w) X.A (richCompare .Eq (.ref a) (.ref b)) (EP X pins σ Q) X.xe s
  refine PySem.W.cmp_K (op := .Eq) (tb := .ref C) hr.units0 hF I.ok.mod.kin J J'.type (by simp [PySem.W.notFirst]) hs hf ?_
  refine wpAny_mono (run_fn (us := [.ref a, .ref b]) (vs := [.ref a, .ref b]) F (hr.mono hk) hb .nil pass0 I (.cons rfl (.cons rfl .nil)) hsp) (fun r s' hz => ?_) fun _ _ z => z
  obtain ⟨z, H', I', rz, kk, ez, q⟩ := hz
  subst ez
  cases rz
  exact ⟨.bl kk, H', I', rfl, q⟩
theorem ko_eqO {X : Cx} {P : Program} {w : World} {K : PySem.W.Frag} {mg : Str → Option Value} {base : Heap} {j k : Nat} {C : Addr} {sp : Sp} (c : EqC P w K mg base k C sp) (hr : Room j X.A) (hk : k ≤ j)
    (h1 : X.prog = P := by rfl) (h2 : X.w = w := by rfl) (h3 : X.K = K := by rfl) (h4 : X.mg = mg := by rfl) (h5 : X.base = base := by rfl) : OpR X (compareOp .Eq) (rEqO C sp) := by
  subst h1 h2 h3 h4 h5
  exact op_eqO c hr hk
/-! ### unlike items, in the order of their first standing -/
def nub {α : Type} [DecidableEq α] (ys : List α) : List α → List α
  | [] => ys
  | x :: r => nub (if x ∈ ys then ys else ys ++ [x]) r
theorem nub_snoc {α : Type} [DecidableEq α] (x : α) : ∀ (l ys : List α), nub ys (l ++ [x]) = if x ∈ nub ys l then nub ys l else nub ys l ++ [x]
  | [], ys => rfl
  | y :: l, ys => nub_snoc x l _
theorem nub_mem {α : Type} [DecidableEq α] (x : α) : ∀ (l ys : List α), x ∈ nub ys l ↔ x ∈ ys ∨ x ∈ l
  | [], ys => by simp [nub]
  | y :: l, ys => by
    show x ∈ nub (if y ∈ ys then ys else ys ++ [y]) l ↔ _
    rw [nub_mem x l]
    by_cases h : y ∈ ys
    · rw [if_pos h, List.mem_cons]
      constructor
      · rintro (q | q)
        · exact .inl q
        · exact .inr (.inr q)
      · rintro (q | rfl | q)
        · exact .inl q
        · exact .inl h
        · exact .inr q
    · rw [if_neg h, List.mem_append, List.mem_singleton, List.mem_cons, or_assoc]
theorem nub_map {α β : Type} [DecidableEq α] [DecidableEq β] (f : α → β) (P : α → Prop) (hf : ∀ a b, P a → P b → f a = f b → a = b) : ∀ (l ys : List α), (∀ a ∈ ys, P a) → (∀ a ∈ l, P a) → nub (ys.map f) (l.map f) = (nub ys l).map f
  | [], _, _, _ => rfl
  | x :: l, ys, h1, h2 => by
    show nub (if f x ∈ ys.map f then ys.map f else ys.map f ++ [f x]) (l.map f) = (nub (if x ∈ ys then ys else ys ++ [x]) l).map f
    have hx := h2 x List.mem_cons_self
    have hl : ∀ a ∈ l, P a := fun a m => h2 a (List.mem_cons_of_mem _ m)
    by_cases h : x ∈ ys
    · rw [if_pos h, if_pos (List.mem_map_of_mem h)]
      exact nub_map f P hf l ys h1 hl
    · have hn : ¬ f x ∈ ys.map f := fun m => by
        obtain ⟨y, hy, e⟩ := List.mem_map.mp m
        exact h (hf y x (h1 y hy) hx e ▸ hy)
      rw [if_neg h, if_neg hn, ← nub_map f P hf l (ys ++ [x]) (fun a m => by
        rcases List.mem_append.mp m with m | m
        · exact h1 a m
        · rw [List.mem_singleton] at m
          subst m
          exact hx) hl, List.map_append]
      rfl
theorem nub_len {α : Type} [DecidableEq α] : ∀ (l ys : List α), (nub ys l).length ≤ ys.length + l.length
  | [], _ => Nat.le_refl _
  | x :: l, ys => by
    have h := nub_len l (if x ∈ ys then ys else ys ++ [x])
    show (nub (if x ∈ ys then ys else ys ++ [x]) l).length ≤ _
    by_cases q : x ∈ ys
    · rw [if_pos q] at h ⊢
      rw [List.length_cons]
      omega
    · rw [if_neg q, List.length_append] at h
      rw [if_neg q, List.length_cons]
      have : [x].length = 1 := rfl
      omega
theorem take_snoc {α : Type} {l : List α} {i : Nat} {x : α} (h : l[i]? = some x) : l.take (i + 1) = l.take i ++ [x] := by
  rw [List.take_add_one, h]
  rfl
theorem mem_step {α : Type} [DecidableEq α] (x z : α) (l : List α) : (decide (z ∈ l) || decide (z = x)) = decide (z ∈ if x ∈ l then l else l ++ [x]) := by
  by_cases q : x ∈ l
  · rw [if_pos q]
    by_cases e : z = x
    · subst e
      simp [q]
    · simp [e]
  · rw [if_neg q]
    simp [List.mem_append]
theorem len_step {α : Type} [DecidableEq α] (x : α) (l : List α) : (if decide (x ∈ l) = true then l.length else l.length + 1) = (if x ∈ l then l else l ++ [x]).length := by
  by_cases q : x ∈ l
  · rw [if_pos q, if_pos (decide_eq_true q)]
  · rw [if_neg q, if_neg (by simp [q]), List.length_append]
    rfl
/-! ### set(texts): any number of texts, some of them alike -/
section
variable {prog : Program} {w : World} {A : Around} {R : Result → Shared → Prop} {I : Addr} {fp wr : List Addr} {G : Array GenState → Array GenState → Prop} {n : Nat} {P : Nat → Value → Prop} {St : Nat → Shared → Prop}
theorem loop_texts (W : WalksS prog w A.in1 I fp wr G n P St) (S : Addr) (hSf : S ∉ fp) (xs : List Str) (hsz : xs.length = n) (hn1 : n ≤ 4000)
    (hval : ∀ i v, P i v → ∃ t, v = .str (xs.getD i Str.empty) t) :
    ∀ (k i : Nat) (s : Shared), n - i = k → i ≤ n → St i s →
      s.heap.SetOf (PySem.strKind prog w) S (fun z => decide (z ∈ nub [] (xs.take i))) (nub [] (xs.take i)).length →
      (∀ s', Moved (S :: wr) G s s' → s'.heap.SetOf (PySem.strKind prog w) S (fun z => decide (z ∈ nub [] (xs.take n))) (nub [] (xs.take n)).length → R (.ok (.ret .none)) s') →
      codeAny (model prog w) A (.builtin "set.update.loop" ⟨[.ref S, .ref I], []⟩) R s := by
  have hSw : S ∉ wr := fun h => hSf (W.sub _ h)
  have hsub : ∀ b ∈ wr, b ∈ S :: wr := fun b hb => List.mem_cons_of_mem _ hb
  have keep : ∀ {i : Nat} {s s' : Shared}, Moved wr G s s' → s.heap.SetOf (PySem.strKind prog w) S (fun z => decide (z ∈ nub [] (xs.take i))) (nub [] (xs.take i)).length → s'.heap.SetOf (PySem.strKind prog w) S (fun z => decide (z ∈ nub [] (xs.take i))) (nub [] (xs.take i)).length := fun hm hS => by
    obtain ⟨o, es, ep, tb, ho, more⟩ := hS
    exact ⟨o, es, ep, tb, hm.heap S _ hSw ho, more⟩
  intro k
  induction k with
  | zero =>
    intro i s hk hi hst hS hR
    obtain rfl : i = n := by omega
    refine codeAny_builtin PyProof.Rows.F.entry_set_update_loop ?_
    rw [Around.under_plainId PyProof.Rows.F.plain_set_update_loop _]
    show wpAny _ A.in1 (pyNext (.ref I) >>= _) _ _ s
    refine wpAny_bind (W.done s _ _ hst fun s' hm => ?_)
    show wpAny _ A.in1 (ret Value.none) _ _ s'
    exact wpAny_pure (hR s' (hm.mono hsub) (keep hm hS))
  | succ k ih =>
    intro i s hk hi hst hS hR
    have hlt : i < n := by omega
    have hx : xs[i]? = some (xs.getD i Str.empty) := by
      rw [List.getD_eq_getElem?_getD, List.getElem?_eq_getElem (by omega)]
      rfl
    refine codeAny_builtin PyProof.Rows.F.entry_set_update_loop ?_
    rw [Around.under_plainId PyProof.Rows.F.plain_set_update_loop _]
    show wpAny _ A.in1 (pyNext (.ref I) >>= _) _ _ s
    refine wpAny_bind (W.item i s _ _ hlt hst fun v s' hP hst' hm => ?_)
    obtain ⟨t, rfl⟩ := hval i v hP
    have hS' := keep hm hS
    have hl := nub_len (xs.take i) ([] : List Str)
    rw [List.length_take, List.length_nil] at hl
    show wpAny _ A.in1 (holding [Value.str (xs.getD i Str.empty) t] (setAdd S (.str (xs.getD i Str.empty) t)) >>= _) _ _ s'
    refine wpAny_bind (wpAny_holding ?_)
    unfold setAdd
    refine wpAny_holding ?_
    refine wpAny_bind ((PySem.strKind prog w).pyHash (k := xs.getD i Str.empty) (strKind_is _ _ _ _) ?_)
    refine wpAny_setAddHashed_of (knd := PySem.strKind prog w) (s := { s' with toks := s'.toks + 1 }) (strKind_is _ _ _ _) rfl hS' (by unfold scanBound; omega) fun h' hsb hS2 => ?_
    have hSi : h'.SetOf (PySem.strKind prog w) S (fun z => decide (z ∈ nub [] (xs.take (i + 1)))) (nub [] (xs.take (i + 1))).length := by
      rw [take_snoc hx, nub_snoc]
      refine SetOf_congr hS2 (fun z => ?_) ?_
      · exact mem_step (xs.getD i Str.empty) z _
      · exact len_step (xs.getD i Str.empty) _
    refine wpAny_pure ⟨plainId_quiet PyProof.Rows.F.plain_set_update_loop _, ih (i + 1) _ (by omega) hlt (W.frame _ s' _ _ hst' (Nat.le_succ _) fun b hb o e => ?_) hSi fun s'' hm'' hS'' => ?_⟩
    · rw [hsb.2 b (fun h : b = S => hSf (by rw [← h]; exact hb))]; exact e
    · refine hR s'' (Moved.trans W.gtrans ((hm.mono hsub).then_heap (Nat.le_succ _) fun b o hb e => ?_) hm'') hS''
      rw [hsb.2 b (fun h : b = S => hb (by rw [h]; exact List.mem_cons_self))]; exact e
end
section
variable {prog : Program} {w : World} {A : Around} {E : Value → Shared → Prop} {s : Shared}
/-- an empty set, as it is laid -/
abbrev set0 (led : Bool) : Obj := { cls := .type "set", dict := none, data := .set #[] 0 (.fresh 0 0 led) }
/-- the unlike texts stand in the set at the old end of the heap, all else is kept -/
abbrev SetGot (prog : Program) (w : World) (s : Shared) (xs : List Str) (h' : Heap) : Prop :=
  h'.SetOf (PySem.strKind prog w) s.heap.objs.size (fun z => decide (z ∈ nub [] xs)) (nub [] xs).length ∧ ∀ b o, b < s.heap.objs.size → s.heap.get? b = some o → h'.get? b = some o
theorem set_fill {l : Addr} {items : Array Value} {xs : List Str} {led : Bool} {T : Result → Shared → Prop} (hh : A.handled = none) (hl : s.heap.IsList l items) (hi : StrsAre items.toList xs) (hn : xs.length ≤ 4000)
    (h : ∀ (h' : Heap) (tk : Nat), SetGot prog w s xs h' → T (.ok (.ret .none)) { s with heap := h', toks := tk }) :
    codeAny (model prog w) A (.builtin "set.update.loop" ⟨[.ref s.heap.objs.size, .ref (s.heap.push (set0 led)).objs.size], []⟩) T
      { s with heap := (s.heap.push (set0 led)).push { cls := .type "list_iterator", data := .fields #[.ref l, .int 0 0] } } := by
  have hS : (s.heap.push (set0 led)).get? s.heap.objs.size = some (set0 led) := Heap.get?_push_size _ rfl
  have hlS : l < s.heap.objs.size := let ⟨_, e, _⟩ := hl; Heap.lt_size e
  have e1 : (s.heap.push (set0 led)).objs.size = s.heap.objs.size + 1 := Heap.size_push _ _
  have hneI : l ≠ (s.heap.push (set0 led)).objs.size := by
    rw [e1]
    exact Nat.ne_of_lt (Nat.lt_succ_of_lt hlS)
  have hSf : s.heap.objs.size ∉ [(s.heap.push (set0 led)).objs.size, l] := by
    rw [e1]
    intro m
    rcases List.mem_cons.mp m with m | m
    · exact absurd m (Nat.ne_of_lt (Nat.lt_succ_self _))
    · exact absurd (List.mem_singleton.mp m) (Nat.ne_of_gt hlS)
  have hl1 : (s.heap.push (set0 led)).IsList l items := hl.push _
  have hsz : xs.length = items.size := by rw [← StrsAre.len_eq hi, Array.length_toList]
  have hval : ∀ (i : Nat) (v : Value), items[i]? = some v → ∃ t, v = .str (xs.getD i Str.empty) t := fun i v hv => SS.strs_at hi i v (by rw [Array.getElem?_toList]; exact hv)
  refine loop_texts ((Walks.list (show A.in1.handled = none by simp [hh]) _ l hneI items).toS) s.heap.objs.size hSf xs hsz (by omega) hval (items.size - 0) 0 _ (by omega) (Nat.zero_le _) ⟨⟨_, Heap.get?_push_size _ rfl, rfl, rfl⟩, (hl1.push _)⟩ ?_ fun s' hm hS' => ?_
  · exact SetOf_congr ((setObjOf_fresh (knd := PySem.strKind prog w) led).setOf (Heap.get?_push_of_some _ hS) (by unfold scanBound; omega)) (fun _ => rfl) rfl
  · obtain ⟨h', g', d', tk', os'⟩ := s'
    obtain rfl : g' = s.gens := hm.gens
    obtain rfl : d' = s.drawn := hm.drawn
    obtain rfl : os' = s.os := hm.os
    rw [← hsz, List.take_length] at hS'
    refine h h' tk' ⟨hS', fun b o hb e => hm.heap b o ?_ (Heap.get?_push_of_some _ (Heap.get?_push_of_some _ e))⟩
    intro m
    rcases List.mem_cons.mp m with m | m
    · exact absurd m (Nat.ne_of_lt hb)
    · have := List.mem_singleton.mp m
      rw [e1] at this
      exact absurd this (Nat.ne_of_lt (Nat.lt_succ_of_lt hb))
set_option maxHeartbeats 8000000 in
theorem call_set_texts {l : Addr} {items : Array Value} {xs : List Str} {Q : Value → Shared → Prop} (hh : A.handled = none) (hl : s.heap.IsList l items) (hi : StrsAre items.toList xs) (hn : xs.length ≤ 4000)
    (h : ∀ (h' : Heap) (tk : Nat), SetGot prog w s xs h' → Q (.ref s.heap.objs.size) { s with heap := h', toks := tk }) :
    wpAny (model prog w) A (call (.type "set") [.ref l]) Q E s := by
  obtain ⟨c, tl, hmro⟩ := PySem.F.called_set.mro
  have hmade := PySem.F.called_set.made
  have hsub := PySem.F.called_set.sub
  refine wpAny_call (codeAny_of_tree ?_)
  show wpAny _ _ (callAny (.type "set") _) _ _ _
  refine wpAny_pure ⟨Code.quiet_builtin _ (by decide +kernel), codeAny_builtin PySem.F.entry_type_call ?_⟩
  rw [Around.under_plain (weight_type_call_type "set" [.ref l] []) rfl]
  have h1 := PySem.F.called_set.notType
  have h2 := PySem.F.called_set.canCreate
  have hct := PySem.F.typeCall_set_1 (.ref l)
  repeat (any_goals (first | assumption | wp_step))
  refine codeAny_mono (code_set_new_1 (.ref l) (E := E) (Q₁ := fun obj s₁ => ∃ led : Bool, obj = .ref s.heap.objs.size ∧ s₁ = { s with heap := s.heap.push (set0 led) }) fun led => ⟨led, rfl, rfl⟩) fun r s₁ hr => ?_
  cases r with
  | error e => exact hr
  | ok fl =>
    cases fl with
    | ret obj =>
      obtain ⟨led, rfl, rfl⟩ := hr
      have hS : (s.heap.push (set0 led)).get? s.heap.objs.size = some (set0 led) := Heap.get?_push_size _ rfl
      have hT : Shared.TypeIs { s with heap := s.heap.push (set0 led) } (.ref s.heap.objs.size) "set" := ⟨_, hS, rfl⟩
      have hli := PySem.F.called_set.init.lookup
      have hbi := PySem.F.called_set.init.bind (.ref s.heap.objs.size)
      repeat (any_goals (first | assumption | wp_step))
      refine codeAny_mono (codeAny_call_builtin (R := wants (fun r s₂ => r = .none ∧ ∃ h' tk, s₂ = { s with heap := h', toks := tk } ∧ SetGot prog w s xs h') E) PySem.F.called_set.init.plain PySem.F.entry_set_init (check_set_init_1 hT ?_)) fun r₂ s₂ hr₂ => ?_
      · obtain ⟨ol, hol, hcl, nl, hdl⟩ := id hl
        obtain ⟨ocls, odict, odata, oslots⟩ := ol
        simp only at hcl hdl
        subst hcl; subst hdl
        have hol' : (s.heap.push (set0 led)).get? l = some { cls := .type "list", dict := odict, data := .seq items nl, slots := oslots } := Heap.get?_push_of_some _ hol
        have hsls := PySem.F.sub_list_set
        have hslf := PySem.F.sub_list_frozenset
        have hne : (Value.type "list" == Value.type "dict") = false := by decide
        have hl1 : (s.heap.push (set0 led)).IsList l items := ⟨_, hol', rfl, nl, rfl⟩
        unfold Builtin.«set.__init__» noKeywords Builtin.Frozenset.updateFrom
        generalize hPI : pyIter = PI
        wp_walk
        subst hPI
        refine wpAny_pyIter_list hl1 ?_
        refine wpAny_bind (wpAny_runValue ?_)
        refine set_fill (led := led) (by simp [hh]) hl hi hn fun h' tk got => ?_
        show wpAny _ _ _ _ _ _
        refine wpAny_pure ?_
        show wpAny _ _ (ret Value.none) _ _ _
        exact wpAny_pure ⟨rfl, h', tk, rfl, got⟩
      · cases r₂ with
        | error e => exact hr₂
        | ok fl₂ =>
          cases fl₂ with
          | ret r =>
            obtain ⟨rfl, h', tk, rfl, got⟩ := hr₂
            repeat (any_goals (first | assumption | wp_step))
            exact h _ _ got
          | _ => exact hr₂.elim
    | _ => exact hr.elim
end
/-- len(set(texts)) -/
def tLenTexts (K : PySem.W.Frag) (ta : TE) : TE := fun σ H Q => ta σ H fun x H1 => ∃ (l : Addr) (xs : List Str), x = .ref l ∧ SqL K H1 l (xs.map V.str) ∧ xs.length ≤ 4000 ∧ Q (.int (nub [] xs).length) H1
theorem pe_lenTexts {X : Cx} {a : Expr} {ta : TE} {p p2 q pos : Pos} (hg : Gl X "len") (hm : X.mg "len" = none) (hg2 : Gl X "set") (hm2 : X.mg "set" = none) (ha : PE X a ta) (hc : X.calm = true := by rfl)
    (na : starEach [a] X.env = (false, eval a X.env) :: starEach [] X.env := by rfl) : PE X (.Call (.Name "len" p) [.Call (.Name "set" p2) [a] [] q] [] pos) (tLenTexts X.K ta) := by
  refine ⟨fun pins s σ H Q I h => ?_⟩
  refine Call_ (ld_blt I hg hm boot_len ?_)
  refine callWith_builtin1 (args_cons ?_ rfl) rfl rfl
  refine Call_ (ld_blt I hg2 hm2 boot_set ?_)
  refine callWith_type1 (args_cons (thn (ha.run pins s σ H _ I h) fun v s1 ⟨x, H1, I1, r1, q1⟩ => args_nil ?_) na) na rfl
  obtain ⟨l, xs, rfl, hq, hn, q1⟩ := q1
  cases r1
  obtain ⟨its, r, pl, hz⟩ := I1.list hq
  refine call_set_texts (I1.ok.hd hc) pl.isList (by simpa using strsAre_of r) hn fun h' tk ⟨hS, hk⟩ => ?_
  refine args_nil ?_
  obtain ⟨o, es, ep, t, ho, hex, hd, _, _, _, hf, hlen⟩ := hS
  have I2 : Inv X pins σ H1 { s1 with heap := h', toks := tk } := I1.kept fun b o e => hk b o (Heap.lt_size e) e
  have hl := nub_len xs ([] : List Str)
  rw [List.length_nil] at hl
  refine call_len_set ho hex hd hf (by rw [hlen] <;> omega) ⟨.int (nub [] xs).length, H1, I2.tok _, ⟨_, by rw [hlen]⟩, q1⟩
end Cm

set_option linter.all false
/-! plain classes: an __init__ that stores its parameters, fields of data, an __eq__ over all fields -/
namespace Cm
open PySem L2 PySem.Spec PyProof.Rows
theorem putF_new {f : Str} {v : V} : ∀ {fs : List (Str × V)}, ¬ f ∈ fs.map (·.1) → putF f v fs = fs ++ [(f, v)]
  | [], _ => rfl
  | (g, x) :: r, h => by
    have h1 : ¬ g = f := fun e => h (by rw [← e]; exact List.mem_cons_self)
    have h2 : ¬ f ∈ r.map (·.1) := fun m => h (List.mem_cons_of_mem _ m)
    show (if g = f then (g, v) :: r else (g, x) :: putF f v r) = _
    rw [if_neg h1, putF_new h2]
    rfl
/-- one field more is stored by __init__ -/
theorem fld_step {K : PySem.W.Frag} {D : Ends} {σ : L2.St} {H0 : Hp} {p C dx : Addr} {fs : List (Str × V)} {f : Str} {i : Nat} {v : V} (hi : σ[i]? = some (some v)) (h0 : σ[0]? = some (some (.ref p))) (cl : Cls K C) (na : NoAttr K C f)
    (hn : ¬ f ∈ fs.map (·.1)) (hl : fs.length < 1000) (k : D.nx σ (upd H0 p (.ins C dx (fs ++ [(f, v)])))) : sFld K (tVar 0) (tVar i) f D σ (upd H0 p (.ins C dx fs)) := by
  refine ⟨v, hi, _, h0, p, C, dx, fs, rfl, upd_same, cl, na, hl, ?_⟩
  rw [upd_upd, putF_new hn]
  exact k
/-- what such an __init__ promises -/
def spIni (C : Addr) (names : List Str) : Sp := fun vs H Q _ => ∃ (H0 : Hp) (p dx : Addr) (xs : List V), vs = .ref p :: xs ∧ xs.length = names.length ∧ H = upd H0 p (.ins C dx []) ∧ Q .non (upd H0 p (.ins C dx (names.zip xs)))
/-- an object of the class at C whose fields hold such data -/
structure Ob (K : PySem.W.Frag) (H : Hp) (C : Addr) (names : List Str) (a : Addr) (ds : List PyData) : Prop where
  ex : ∃ (dx : Addr) (xs : List V), H a = some (.ins C dx (names.zip xs)) ∧ DpAll K H xs ds ∧ xs.length = names.length
theorem Ob.same {K : PySem.W.Frag} {H H' : Hp} {C : Addr} {names : List Str} {a : Addr} {ds : List PyData} (o : Ob K H C names a ds) (s : Same H H') : Ob K H' C names a ds :=
  let ⟨dx, xs, h, d, l⟩ := o.ex; ⟨dx, xs, s _ _ h, dps_same s _ _ d, l⟩
theorem Ob.kp {K : PySem.W.Frag} {M : Addr → Prop} {H H' : Hp} {C : Addr} {names : List Str} {a : Addr} {ds : List PyData} (o : Ob K H C names a ds) (s : Kp M H H') (fl : flatDs ds = true) : Ob K H' C names a ds := by
  obtain ⟨dx, xs, h, d, l⟩ := o.ex
  refine ⟨dx, xs, s.st _ _ (fun m => ?_) h, dps_keep (fun _ _ q => s.tup q) _ _ fl d, l⟩
  obtain ⟨ys, e⟩ := s.l1 a m
  rw [h] at e
  cases e
/-- C(e, ..) makes an object with such fields -/
theorem made_ob {K : PySem.W.Frag} {C : Addr} {names : List Str} {H : Hp} {Q : VK} {vs : List V} {ds : List PyData} (hd : DpAll K H vs ds) (hl : vs.length = names.length) (k : ∀ p H', H p = none → Same H H' → Ob K H' C names p ds → Q (.ref p) H') :
    ∀ x dx, H x = none → H dx = none → dx ≠ x → spIni C names (.ref x :: (vs ++ [])) (upd (upd H dx (.own x)) x (.ins C dx [])) (fun v H' => v = .non ∧ Q (.ref x) H') E0 := fun x dx nx ndx ne => by
  refine ⟨upd H dx (.own x), x, dx, vs, by rw [List.append_nil], hl, rfl, rfl, ?_⟩
  have n2 : upd H dx (.own x) x = none := by
    rw [upd_ne ne.symm]
    exact nx
  have s : Same H (upd (upd H dx (.own x)) x (.ins C dx (names.zip vs))) := (same_new ndx).trans (same_new n2)
  exact k x _ nx s ⟨dx, vs, upd_same, dps_same s _ _ hd, hl⟩
theorem lookup_zip {f : Str} {v : V} : ∀ {names : List Str} {xs : List V} {i : Nat}, names.Nodup → names[i]? = some f → xs[i]? = some v → (names.zip xs).lookup f = some v
  | [], _, _, _, h, _ => by simp at h
  | _ :: _, [], _, _, _, h => by simp at h
  | g :: names, x :: xs, 0, nd, h1, h2 => by
    simp only [List.getElem?_cons_zero, Option.some.injEq] at h1 h2
    subst h1 h2
    show (match g == g with | true => some x | false => (names.zip xs).lookup g) = some x
    rw [beq_self_eq_true]
  | g :: names, x :: xs, i + 1, nd, h1, h2 => by
    rw [List.getElem?_cons_succ] at h1 h2
    have ne : (f == g) = false := by
      rw [beq_eq_false_iff_ne]
      intro e
      subst e
      exact (List.nodup_cons.mp nd).1 (List.mem_of_getElem? h1)
    show (match f == g with | true => some x | false => (names.zip xs).lookup f) = some v
    rw [ne]
    exact lookup_zip (List.nodup_cons.mp nd).2 h1 h2
theorem made_ob2 {K : PySem.W.Frag} {C : Addr} {names : List Str} {H : Hp} {vs : List V} {ds : List PyData} {x dx : Addr} (hd : DpAll K H vs ds) (hl : vs.length = names.length) (nx : H x = none) (ndx : H dx = none) (ne : dx ≠ x) :
    ∃ H', Same H H' ∧ Ob K H' C names x ds ∧ ∀ Q' : VK, Q' .non H' → spIni C names (.ref x :: (vs ++ [])) (upd (upd H dx (.own x)) x (.ins C dx [])) Q' E0 := by
  have n2 : upd H dx (.own x) x = none := by
    rw [upd_ne ne.symm]
    exact nx
  have s : Same H (upd (upd H dx (.own x)) x (.ins C dx (names.zip vs))) := (same_new ndx).trans (same_new n2)
  exact ⟨_, s, ⟨dx, vs, upd_same, dps_same s _ _ hd, hl⟩, fun Q' q => ⟨upd H dx (.own x), x, dx, vs, by rw [List.append_nil], hl, rfl, q⟩⟩
/-- a field is read -/
theorem ob_fld {K : PySem.W.Frag} {H : Hp} {C : Addr} {names : List Str} {a : Addr} {ds : List PyData} {f : Str} {Q : VK} (o : Ob K H C names a ds) (cl : Cls K C) (na : NoAttr K C f) (i : Nat) {d : PyData} (hd : ds[i]? = some d)
    (hf : names[i]? = some f) (nd : names.Nodup) (k : ∀ v, Dp K H v d → Q v H) :
    ∃ b C' dx fs v, (V.ref a) = .ref b ∧ H b = some (.ins C' dx fs) ∧ Cls K C' ∧ NoAttr K C' f ∧ fs.lookup f = some v ∧ Q v H := by
  obtain ⟨dx, xs, h, hx, l⟩ := o.ex
  obtain ⟨v, e, hv⟩ := DpAll.at hx hd
  exact ⟨a, C, dx, _, v, rfl, h, cl, na, lookup_zip nd hf e, k v hv⟩
theorem Ob.fld {K : PySem.W.Frag} {H : Hp} {C : Addr} {names : List Str} {a : Addr} {ds : List PyData} {f : Str} (o : Ob K H C names a ds) (i : Nat) {d : PyData} (hd : ds[i]? = some d) (hf : names[i]? = some f) (nd : names.Nodup) :
    ∃ dx fs v, H a = some (.ins C dx fs) ∧ fs.lookup f = some v ∧ Dp K H v d := by
  obtain ⟨dx, xs, h, hx, l⟩ := o.ex
  obtain ⟨v, e, hv⟩ := DpAll.at hx hd
  exact ⟨dx, _, v, h, lookup_zip nd hf e, hv⟩
/-- what changed was new -/
theorem kp_new {H H' : Hp} {L : Addr} {o : HO} (hL : H L = none) (kp : Kp (fun x => x = L) (upd H L o) H') : Same H H' := fun b u e => by
  have n : b ≠ L := ne_of_none e hL
  exact kp.st b u n (by rw [upd_ne n]; exact e)
theorem ref_not_non {t : Addr} : (!decide (V.ref t = V.non)) = true := by
  rw [decide_eq_false (by intro z; cases z)]
  rfl
theorem non_non : (!decide (V.non = V.non)) = false := by
  rw [decide_eq_true rfl]
  rfl
theorem kit_self {K : PySem.W.Frag} {C : Addr} : PySem.W.kitOne K (.ref C) (.ref C) = some true := if_pos (by simp)
theorem eqv_all (d : PyData) (h : SeqAt.shaped d = true) : PyData.eqv d d = true := SeqAt.eqv_refl d (SeqAt.canLay_of_shaped h)
/-- the answer of an __eq__ over all fields -/
def eqs : List PyData → List PyData → Bool
  | d :: ds, e :: es => PyData.eqv d e && eqs ds es
  | _, _ => true
theorem eqs_refl : ∀ ds : List PyData, (∀ d ∈ ds, SeqAt.shaped d = true) → eqs ds ds = true
  | [], _ => rfl
  | d :: ds, h => by
    show (PyData.eqv d d && eqs ds ds) = true
    rw [eqv_all d (h d List.mem_cons_self), eqs_refl ds fun e m => h e (List.mem_cons_of_mem _ m)]
    rfl
def spEqA (K : PySem.W.Frag) (C : Addr) (names : List Str) : Sp := fun vs H Q _ => ∃ (a b : Addr) (ds es : List PyData), vs = [.ref a, .ref b] ∧ Ob K H C names a ds ∧ Ob K H C names b es ∧ (∀ d ∈ ds, SeqAt.shaped d = true) ∧ (∀ d ∈ es, SeqAt.shaped d = true) ∧ Q (.bl (eqs ds es)) H
theorem fld_eq {K : PySem.W.Frag} {H : Hp} {C : Addr} {names : List Str} {a b : Addr} {ds es : List PyData} {f : Str} {σ : L2.St} {Q : VK} (i : Nat) {d e : PyData} (o : Ob K H C names a ds) (o' : Ob K H C names b es) (cl : Cls K C) (na : NoAttr K C f)
    (h0 : σ[0]? = some (some (.ref a))) (h1 : σ[1]? = some (some (.ref b))) (hd : ds[i]? = some d) (he : es[i]? = some e) (hf : names[i]? = some f) (nd : names.Nodup) (sd : ∀ d ∈ ds, SeqAt.shaped d = true) (se : ∀ d ∈ es, SeqAt.shaped d = true)
    (k : Q (.bl (PyData.eqv d e)) H) : tOp (rEqD K) (tFld K (tVar 0) f) (tFld K (tVar 1) f) σ H Q :=
  ⟨_, h0, ob_fld (Q := fun x H1 => tFld K (tVar 1) f σ H1 fun y H2 => rEqD K x y H2 Q) o cl na i hd hf nd fun v hv =>
    ⟨_, h1, ob_fld (Q := fun y H2 => rEqD K v y H2 Q) o' cl na i he hf nd fun _ hu => ⟨d, e, hv, hu, sd d (List.mem_of_getElem? hd), se e (List.mem_of_getElem? he), k⟩⟩⟩
theorem and_fld {K : PySem.W.Frag} {H : Hp} {C : Addr} {names : List Str} {a b : Addr} {ds es : List PyData} {f : Str} {σ : L2.St} {Q : VK} {rest : TE} (i : Nat) {d e : PyData} (o : Ob K H C names a ds) (o' : Ob K H C names b es) (cl : Cls K C) (na : NoAttr K C f)
    (h0 : σ[0]? = some (some (.ref a))) (h1 : σ[1]? = some (some (.ref b))) (hd : ds[i]? = some d) (he : es[i]? = some e) (hf : names[i]? = some f) (nd : names.Nodup) (sd : ∀ d ∈ ds, SeqAt.shaped d = true) (se : ∀ d ∈ es, SeqAt.shaped d = true)
    (k1 : PyData.eqv d e = true → rest σ H Q) (k0 : PyData.eqv d e = false → Q (.bl false) H) : tAndV (tOp (rEqD K) (tFld K (tVar 0) f) (tFld K (tVar 1) f)) rest σ H Q := by
  refine fld_eq i o o' cl na h0 h1 hd he hf nd sd se ⟨_, rfl, ?_⟩
  cases e2 : PyData.eqv d e with
  | true => exact iteT (k1 e2)
  | false => exact iteF (k0 e2)
theorem eqs_t {d e : PyData} {ds es : List PyData} (h : PyData.eqv d e = true) : eqs (d :: ds) (e :: es) = eqs ds es := by
  show (PyData.eqv d e && eqs ds es) = _
  rw [h, Bool.true_and]
theorem eqs_f {d e : PyData} {ds es : List PyData} (h : PyData.eqv d e = false) : eqs (d :: ds) (e :: es) = false := by
  show (PyData.eqv d e && eqs ds es) = _
  rw [h, Bool.false_and]
/-- facts of a plain class -/
structure ClsT (K : PySem.W.Frag) (mg : Str → Option Value) (x : Str) (C : Addr) (names : List Str) : Prop where
  ins : C8.InsC K C
  mg : mg x = some (.ref C)
  no : ∀ f ∈ names, NoAttr K C f
theorem Ob.ins {K : PySem.W.Frag} {H : Hp} {C : Addr} {names : List Str} {a : Addr} {ds : List PyData} (o : Ob K H C names a ds) : ∃ dx fs, H a = some (.ins C dx fs) := let ⟨dx, _, h, _⟩ := o.ex; ⟨dx, _, h⟩
/-- x == y over two such objects -/
theorem eq_ob {K : PySem.W.Frag} {H : Hp} {C : Addr} {names : List Str} {a b : Addr} {ds es : List PyData} {Q : VK} (o : Ob K H C names a ds) (o' : Ob K H C names b es) (h1 : ∀ d ∈ ds, SeqAt.shaped d = true) (h2 : ∀ d ∈ es, SeqAt.shaped d = true)
    (k : Q (.bl (eqs ds es)) H) : rEqO C (spEqA K C names) (.ref a) (.ref b) H Q := by
  obtain ⟨dx, fs, e⟩ := o.ins
  obtain ⟨dy, gs, e'⟩ := o'.ins
  exact ⟨a, b, dx, dy, fs, gs, rfl, rfl, e, e', a, b, ds, es, rfl, o, o', h1, h2, _, rfl, k⟩
end Cm

namespace K32
open PySem L2 Cm
abbrev namesJ : List Str := ["rows", "starts", "returns"]
theorem three {α : Type} {xs : List α} (h : xs.length = 3) : ∃ a b c, xs = [a, b, c] := by
  match xs, h with
  | [a, b, c], _ => exact ⟨a, b, c, rfl⟩
section
variable {P : Program} {w : World} {K : PySem.W.Frag} {mg : Str → Option Value} {base : Heap}
abbrev s_JI : Stmt := inClass (top 5) 0
abbrev s_JE : Stmt := inClass (top 5) 1
abbrev N_JI : List Str := ["self", "rows", "starts", "returns"]
theorem sc_JI : FnScope N_JI N_JI (defScope s_JI) := ⟨rfl, rfl, rfl, by decide +kernel, rfl, by decide +kernel, by decide +kernel⟩
theorem ok_JI {C f : Addr} {fd : FuncData} (F : Fun K "__init__" "JumpCode.__init__" s_JI f fd) (T : ClsT K mg "JumpCode" C namesJ) : FnOk P w K mg base CX0 1 f fd N_JI (spIni C namesJ) := by
  refine F.ok sc_JI (fun vs H Q E h => ?_) (fun cdv A outer s H vs Q E hr h => ?_)
  · obtain ⟨H0, p, dx, xs, rfl, hl, _⟩ := h
    exact congrArg (· + 1) hl
  · obtain ⟨H0, p, dx, xs, rfl, hl, rfl, k⟩ := h
    obtain ⟨a, b, c, rfl⟩ := three hl
    refine ⟨_, (pss_cons (ps_fld (pv 0) (pv 1) rfl) (pss_cons (ps_fld (pv 0) (pv 2) rfl) (pss_one (ps_fld (pv 0) (pv 3) rfl)))), ?_⟩
    refine fld_step rfl rfl T.ins.cl (T.no _ (by decide +kernel)) (by decide +kernel) (by show 0 < 1000; decide) ?_
    refine fld_step rfl rfl T.ins.cl (T.no _ (by decide +kernel)) (by show ¬ ("starts" : Str) ∈ (["rows"] : List Str); decide +kernel) (by show 1 < 1000; decide) ?_
    refine fld_step rfl rfl T.ins.cl (T.no _ (by decide +kernel)) (by show ¬ ("returns" : Str) ∈ (["rows", "starts"] : List Str); decide +kernel) (by show 2 < 1000; decide) ?_
    exact k
theorem sc_JE : FnScope ["self", "other"] ["self", "other"] (defScope s_JE) := ⟨rfl, rfl, rfl, by decide +kernel, rfl, by decide +kernel, by decide +kernel⟩
theorem ok_JE {C f : Addr} {fd : FuncData} (T0 : Txt mg) (F : Fun K "__eq__" "JumpCode.__eq__" s_JE f fd) (T : ClsT K mg "JumpCode" C namesJ) : FnOk P w K mg base CX0 1 f fd ["self", "other"] (spEqA K C namesJ) := by
  refine F.ok sc_JE (fun vs H Q E h => ?_) (fun cdv A outer s H vs Q E hr h => ?_)
  · obtain ⟨a, b, ds, es, rfl, _⟩ := h
    rfl
  · obtain ⟨a, b, ds, es, rfl, o, o', h1, h2, k⟩ := h
    obtain ⟨dx, xs, hA, hd, hl⟩ := o.ex
    obtain ⟨dy, ys, hB, he, hl'⟩ := o'.ex
    obtain ⟨d1, d2, d3, rfl⟩ := three ((DpAll.len hd).symm.trans hl)
    obtain ⟨e1, e2, e3, rfl⟩ := three ((DpAll.len he).symm.trans hl')
    refine ⟨_, (pss_one (ps_ret (pe_and (pe_callB (C8.call_isC T.ins) (by rfl) T0.isinstance (by decide +kernel) (pa_cons (pv 1) (pa_cons (C8.pe_gc (v := .ref C) (by rfl) ⟨_, T.mg, rfl⟩) pa_nil)))
      (pe_and (pe_cmpR (op_eqD hr.units) (pe_fld (pv 0) rfl) (pe_fld (pv 1) rfl) (nomark _)) (pe_and (pe_cmpR (op_eqD hr.units) (pe_fld (pv 0) rfl) (pe_fld (pv 1) rfl) (nomark _))
      (pe_one (pe_cmpR (op_eqD hr.units) (pe_fld (pv 0) rfl) (pe_fld (pv 1) rfl) (nomark _)))))))), ?_⟩
    refine ⟨_, rfl, b, dy, _, rfl, hB, _, rfl, ?_⟩
    refine iteT ?_
    refine and_fld 0 o o' T.ins.cl (T.no _ (by decide +kernel)) rfl rfl rfl rfl rfl (by decide +kernel) h1 h2 (fun g1 => ?_) (fun g => by rw [eqs_f g] at k; exact k)
    rw [eqs_t g1] at k
    refine and_fld 1 o o' T.ins.cl (T.no _ (by decide +kernel)) rfl rfl rfl rfl rfl (by decide +kernel) h1 h2 (fun g1 => ?_) (fun g => by rw [eqs_f g] at k; exact k)
    rw [eqs_t g1] at k
    refine fld_eq 2 o o' T.ins.cl (T.no _ (by decide +kernel)) rfl rfl rfl rfl rfl (by decide +kernel) h1 h2 ?_
    have e : eqs [d3] [e3] = PyData.eqv d3 e3 := by
      show (PyData.eqv d3 e3 && true) = _
      rw [Bool.and_true]
    rw [e] at k
    exact k
end
end K32

namespace K32
open PySem L2 Cm
def spTexts (K : PySem.W.Frag) : Sp := fun vs H Q _ => ∃ (t : Addr) (ks : List Nat), vs = [.ref t] ∧ SqT K H t (ks.map numv) ∧ ks.length ≤ 90000 ∧ (∀ n ∈ ks, n < 1000000) ∧ ∀ D H', Same H H' → H D = none → H' D = some (.lst ((ks.map nS).map V.str)) → Q (.ref D) H'
def spWords (K : PySem.W.Frag) : Sp := fun vs H Q _ => ∃ (v : V) (r : Rw), vs = [v] ∧ Dp K H v r.enc ∧ r.ok ∧ r.wds.length ≤ 90000 ∧ ∀ D H', Same H H' → H D = none → H' D = some (.lst (r.wds.map V.str)) → Q (.ref D) H'
theorem fits_len : ∀ {ss : List Sh} {is : List It5}, fits ss is → ss.length = is.length
  | [], [], _ => rfl
  | [], _ :: _, h => h.elim
  | _ :: _, [], h => h.elim
  | s :: ss, i :: is, h => congrArg (· + 1) (fits_len (show fitI s i ∧ fits ss is from h).2)
theorem fits_at : ∀ {ss : List Sh} {is : List It5} {i : Nat} {s : Sh} {x : It5}, fits ss is → ss[i]? = some s → is[i]? = some x → fitI s x
  | [], _, _, _, _, _, h, _ => by cases h
  | _ :: _, [], _, _, _, _, _, h => by cases h
  | s :: ss, y :: is, 0, _, _, h, e1, e2 => by
    cases e1
    cases e2
    exact (show fitI s y ∧ fits ss is from h).1
  | s :: ss, y :: is, i + 1, _, _, h, e1, e2 => fits_at (i := i) (show fitI s y ∧ fits ss is from h).2 e1 e2
theorem kit_int_tup {K : PySem.W.Frag} : PySem.W.kitOne K (.type "int") (.type "tuple") = some false := by rfl
theorem kit_str_tup {K : PySem.W.Frag} : PySem.W.kitOne K (.type "str") (.type "tuple") = some false := by rfl
theorem dp_pairs_at {K : PySem.W.Frag} {H : Hp} {v : V} {xs : List (Nat × List Nat)} (h : Dp K H v (pairsD xs)) : ∃ t us, v = .ref t ∧ SqT K H t us ∧ DpAll K H us (xs.map pairD) := by
  cases h with
  | tup a b => exact ⟨_, _, rfl, a, b⟩
theorem dp_pair_inv {K : PySem.W.Frag} {H : Hp} {v : V} {p : Nat × List Nat} (h : Dp K H v (pairD p)) : ∃ t c, v = .ref t ∧ SqT K H t [numv p.1, .ref c] ∧ SqT K H c (p.2.map numv) := by
  cases h with
  | tup a b =>
    cases b with
    | cons b1 b2 =>
      cases b2 with
      | cons b3 b4 =>
        cases b4
        obtain rfl := numD_inv b1
        obtain ⟨c, rfl, hc⟩ := numsD_inv b3
        exact ⟨_, c, rfl, a, hc⟩
theorem log_small {n : Nat} (h : n < 1000000) : ((n : Nat) : Int).natAbs.log2 < 1920 := by
  rw [Int.natAbs_natCast]
  by_cases z : n = 0
  · rw [z]; decide
  · exact (Nat.log2_lt z).mpr (Nat.lt_of_lt_of_le h (by decide))
theorem call_strA {X : Cx} : CallR X (.type "str") (fun xs H Q => (∃ i, xs = [.int i] ∧ i.natAbs.log2 < 1920 ∧ Q (.str (toString i)) H) ∨ ∃ a, xs = [.str a] ∧ Q (.str a) H) := by
  intro pins s σ H xs us Q I r h
  rcases h with h | h
  · exact call_str_int pins s σ H xs us Q I r h
  · exact SkE.call_str_str pins s σ H xs us Q I r h
theorem log_val {i : Int} (h : i.natAbs ≤ 1000000000) : i.natAbs.log2 < 1920 := by
  by_cases z : i.natAbs = 0
  · rw [z]
    decide
  · exact Nat.lt_trans ((Nat.log2_lt (k := 30) z).mpr (Nat.lt_of_le_of_lt h (by decide))) (by decide)
theorem flat_take {α β : Type} (f : α → List β) (l : List α) (k : Nat) : ((l.take k).map f).flatten.length ≤ (l.map f).flatten.length := by
  have e4 : (l.map f).flatten.length = ((l.take k).map f).flatten.length + ((l.drop k).map f).flatten.length := by
    rw [← List.length_append, ← List.flatten_append, ← List.map_append, List.take_append_drop]
  omega
theorem flat_next {α β : Type} (f : α → List β) {l : List α} {k : Nat} {x : α} (h : l[k]? = some x) : ((l.take (k + 1)).map f).flatten = ((l.take k).map f).flatten ++ f x := by
  rw [List.take_succ, h]
  simp
/-- all kept, and a new list apart -/
structure Nu (H H' : Hp) (L : Addr) (ws : List Str) : Prop where
  s : Same H H'
  l : H' L = some (.lst (ws.map V.str))
section
variable {P : Program} {w : World} {K : PySem.W.Frag} {mg : Str → Option Value} {base : Heap}
abbrev s_p_texts_of : Stmt := top 39
abbrev N_p_texts_of : List Str := ["numbers", "number"]
theorem sc_p_texts_of : FnScope N_p_texts_of ["numbers"] (defScope s_p_texts_of) := ⟨rfl, rfl, rfl, by decide +kernel, rfl, by decide +kernel, by decide +kernel⟩
theorem ok_texts_of (T : Txt mg) (D : At K mg "_texts_of" s_p_texts_of ["numbers"]) : Cl P w K mg base 1 "_texts_of" (spTexts K) := by
  refine cl_of D sc_p_texts_of (fun vs H Q E h => ?_) fun f cdv A outer s H vs Q E hr h => ?_
  · obtain ⟨t, ks, rfl, _⟩ := h
    rfl
  · obtain ⟨t, ks, rfl, ht, hl, hn, k⟩ := h
    refine ⟨_, (pss_one (ps_ret (pe_lc (own := [("number", 1)]) rfl sc_p_texts_of.nd (pi_tup (pv 0)) (blkOk_by (N := N_p_texts_of) (sc := defScope s_p_texts_of) (by decide +kernel))
      (fun _ _ _ _ _ => (pg_name (i := 1) sc_p_texts_of.nd rfl (Or.inl rfl)))
      (fun _ _ _ _ _ => pts_nil)
      (fun _ _ _ _ _ => (pe_callTy call_str_int (by rfl) T.str (by decide +kernel) (pa_cons (pv 1) pa_nil)))))), ?_⟩
    refine ⟨_, rfl, t, rfl, ⟨_, ht⟩, fun D1 hD1 => ?_⟩
    refine lc_mapF (K := K) ks numv (fun n => .str (nS n)) (fun n => .str (nS n)) (fun _ => rfl) (fun H v x h => by cases h; rfl) walk_tup hD1 (by omega) (fun H' s => sqt_same s ht) (fun x H1 m s1 Q1 Q0 q1 => ?_) (fun H1 s1 hD2 => ?_)
    · exact ⟨rfl, _, rfl, _, rfl, log_small (hn x m), q1 _ _ (Same.refl _) (.str _)⟩
    · exact k D1 H1 s1 hD1 (by rw [hD2, List.map_map]; rfl)
abbrev s_p_words_of : Stmt := top 40
abbrev N_p_words_of : List Str := ["row", "words", "shape", "item", "body", "cells"]
theorem sc_p_words_of : FnScope N_p_words_of ["row"] (defScope s_p_words_of) := ⟨rfl, rfl, rfl, by decide +kernel, rfl, by decide +kernel, by decide +kernel⟩
theorem ok_words_of (T : Txt mg) (G : Glb K w mg) (c_p_texts_of : Cl P w K mg base 1 "_texts_of" (spTexts K)) (D : At K mg "_words_of" s_p_words_of ["row"]) : Cl P w K mg base 2 "_words_of" (spWords K) := by
  refine cl_of D sc_p_words_of (fun vs H Q E h => ?_) fun f cdv A outer s H vs Q E hr h => ?_
  · obtain ⟨v, r, rfl, _⟩ := h
    rfl
  · obtain ⟨v, r, rfl, hv, hok, hlen, k⟩ := h
    obtain ⟨sa, es, n, hsa, DS, nsn, nss⟩ := G.sl
    refine ⟨_, (pss_cons (ps_set (i := 1) sc_p_words_of.nd rfl (Or.inl rfl) (pe_lst (pa_cons (pe_ix ix_tup (pv 0) pe_int (fun _ _ => rfl)) pa_nil)))
      (pss_cons (ps_for PassesOwn.never rfl (RZ.pi_zipA (by rfl) T.zip (pa_cons (pe_ix ix_kdict (pe_glob (v := .ref sa) (by rfl) hsa rfl) (pe_ix ix_tup (pv 0) pe_int (fun _ _ => rfl)) (fun _ _ => rfl)) (pa_cons (pe_slice sl_tupA (pv 0) (po_some pe_int) po_none) pa_nil))) (pg_tup (by rfl) (pgs_cons (pg_name (i := 2) sc_p_words_of.nd rfl (Or.inl rfl)) (pgs_cons (pg_name (i := 3) sc_p_words_of.nd rfl (Or.inl rfl)) pgs_nil)))
        (pss_one (ps_if (pt_cmpR op_eq (pv 2) pe_str (nomark _))
          (pss_one (ps_expr (pe_bm PySem.F.plainAttrs_list PySem.F.slot_list_extend PySem.F.type_list_extend mt_extend (pv 1) (pa_cons (pe_c c_p_texts_of hr (by decide) (by rfl) (pa_cons (pv 3) pa_nil)) pa_nil))))
          (pss_one (ps_if (pt_cmpR op_eq (pv 2) pe_str (nomark _))
            (pss_one (ps_for PassesOwn.never rfl (pi_tup (pv 3)) (pg_tup (by rfl) (pgs_cons (pg_name (i := 4) sc_p_words_of.nd rfl (Or.inl rfl)) (pgs_cons (pg_name (i := 5) sc_p_words_of.nd rfl (Or.inl rfl)) pgs_nil)))
              (pss_one (ps_expr (pe_bm PySem.F.plainAttrs_list PySem.F.slot_list_extend PySem.F.type_list_extend mt_extend (pv 1) (pa_cons (pe_c c_p_texts_of hr (by decide) (by rfl) (pa_cons (pe_op op_catA (pe_tup (pa_cons (pv 4) (pa_cons (pe_callB call_len_seq (by rfl) T.len (by decide +kernel) (pa_cons (pv 5) pa_nil)) pa_nil))) (pe_tupleOf (by rfl) T.tuple (pv 5))) pa_nil)) pa_nil))))))
            (pss_one (ps_if (pt_val (pe_callB call_isi (by rfl) T.isinstance (by decide +kernel) (pa_cons (pv 3) (pa_cons (pe_bltn (v := .ty "tuple") (by rfl) T.tuple (by rfl) (show RelV (.ty "tuple") (.type "tuple") from rfl)) pa_nil))))
              (pss_one (ps_expr (pe_bm PySem.F.plainAttrs_list PySem.F.slot_list_append PySem.F.type_list_append mt_append (pv 1) (pa_cons (pe_ix ix_tup (pv 3) pe_int (fun _ _ => rfl)) pa_nil))))
              (pss_one (ps_expr (pe_bm PySem.F.plainAttrs_list PySem.F.slot_list_append PySem.F.type_list_append mt_append (pv 1) (pa_cons (pe_callTy call_strA (by rfl) T.str (by decide +kernel) (pa_cons (pv 3) pa_nil)) pa_nil)))))))))))
      (pss_one (ps_ret (pv 1))))), ?_⟩
    obtain ⟨ss, esh, _, hfit⟩ := hok
    have hx : r.w ∈ shapesL.map (·.1) := by
      refine Classical.byContradiction fun nx => ?_
      rw [shape_out nx] at esh
      cases esh
    obtain ⟨r2, hr2, er2⟩ := List.mem_map.mp hx
    have e2 := shape_in r2 hr2
    rw [er2, esh] at e2
    obtain rfl : ss = r2.2 := Option.some.inj e2
    obtain ⟨tp, e, htp⟩ := nss (r2.1, r2.2.map shName) (List.mem_map.mpr ⟨r2, hr2, rfl⟩)
    rw [show ((r2.1, r2.2.map shName) : Str × List Str).1 = r.w from er2] at e
    obtain ⟨t, its, rfl, ht, hits⟩ : ∃ t its, v = .ref t ∧ SqT K H t (.str r.w :: its) ∧ DpAll K H its (r.its.map It5.enc) := by
      cases hv with
      | tup a b =>
        cases b with
        | cons b1 b2 =>
          cases b1
          exact ⟨_, _, rfl, a, b2⟩
    refine ⟨_, rfl, t, _, _, _, rfl, rfl, ht, atI_nat (j := 0) rfl, by show 1 ≤ sizeLine; decide, fun L hL => ?_⟩
    have sL := same_new (o := .lst [.str r.w]) hL
    refine ⟨_, rfl, t, _, _, _, rfl, rfl, sqt_same sL ht, atI_nat (j := 0) rfl, sa, r.w, .ref tp, rfl, rfl, ⟨es, n, _, DS.1, DS.lit, e, rfl⟩, _, rfl, _, rfl, ?_⟩
    refine sl_from (k := 1) (sqt_same sL ht) (by simp) fun t2 H2 s2 ht2 => ?_
    have ht2' : SqT K H2 t2 its := ht2
    have s02 := sL.trans s2
    have hlen2 : its.length = r.its.length := by rw [Cm.DpAll.len hits, List.length_map]
    have hss : r2.2.length = r.its.length := fits_len hfit
    refine ⟨tp, t2, _, _, rfl, .inr ⟨htp _, ht2', ?_⟩⟩
    refine for_it (walk_zipT (K := K) (a := tp) (b := t2) (xs := (r2.2.map shName).map V.str) (ys := its) (n := r.its.length) (by rw [List.length_map, List.length_map, hss, hlen2, Nat.min_self])) (fun i σ H' => ∃ (ws : List Str) (v2 v3 v4 v5 : Option V), σ = [some (.ref t), some (.ref L), v2, v3, v4, v5] ∧
      H' L = some (.lst (ws.map V.str)) ∧ Same H H' ∧ ws = r.w :: ((r.its.take i).map It5.wds).flatten ∧ SqT K H' t2 its) ?_ (fun i σ H' _ z => ?_) ?_ ?_
    · exact ⟨[r.w], none, none, none, none, rfl, s2 _ _ upd_same, s02, rfl, ht2'⟩
    · obtain ⟨ws, v2, v3, v4, v5, _, _, _, _, z⟩ := z
      exact ⟨htp _, z⟩
    · rintro i v σ H3 H4 hi ⟨ws, v2, v3, v4, v5, rfl, hL3, s3, ews, ht3⟩ ⟨T1, x1, x2, rfl, hT, rfl, ex1, ex2⟩
      have s4 := same_new (o := .tup [x1, x2]) hT
      have hi1 : i < r2.2.length := by omega
      obtain ⟨sh, esh1⟩ : ∃ sh, r2.2[i]? = some sh := ⟨_, List.getElem?_eq_getElem hi1⟩
      obtain ⟨it, eit⟩ : ∃ it, r.its[i]? = some it := ⟨_, List.getElem?_eq_getElem hi⟩
      obtain rfl : V.str (shName sh) = x1 := by
        have : ((r2.2.map shName).map V.str)[i]? = some (.str (shName sh)) := by simp [esh1]
        exact Option.some.inj (this.symm.trans ex1)
      obtain ⟨d, ed, hd⟩ := Cm.DpAll.atV hits ex2
      obtain rfl : d = it.enc := by
        rw [List.getElem?_map, eit] at ed
        exact (Option.some.inj ed).symm
      have hd4 := dp_same (s3.trans s4) _ _ hd
      have hf := fits_at hfit esh1 eit
      have etk : (r.its.take (i + 1)).map It5.wds = (r.its.take i).map It5.wds ++ [it.wds] := by
        rw [List.take_succ, eit]
        simp
      have ews2 : r.w :: ((r.its.take (i + 1)).map It5.wds).flatten = ws ++ it.wds := by
        rw [etk, ews]
        simp
      have hwl : ws.length + it.wds.length ≤ 90000 := by
        refine Nat.le_trans (Nat.le_of_eq ?_) (Nat.le_trans (show (r.w :: ((r.its.take (i + 1)).map It5.wds).flatten).length ≤ r.wds.length from ?_) hlen)
        · rw [ews2, List.length_append]
        · show _ ≤ (r.w :: (r.its.map It5.wds).flatten).length
          rw [List.length_cons, List.length_cons]
          have e3 : r.its = r.its.take (i + 1) ++ r.its.drop (i + 1) := (List.take_append_drop _ _).symm
          have e4 : (r.its.map It5.wds).flatten.length = ((r.its.take (i + 1)).map It5.wds).flatten.length + ((r.its.drop (i + 1)).map It5.wds).flatten.length := by
            rw [← List.length_append, ← List.flatten_append, ← List.map_append, List.take_append_drop]
          omega
      have hL4 := s4 _ _ hL3
      have s34 := s3.trans s4
      have ht4 := sqt_same s4 ht3
      have done : ∀ (H5 : Hp) (v4 v5 : Option V), Same H H5 → H5 L = some (.lst ((ws ++ it.wds).map V.str)) → SqT K H5 t2 its → ∃ (ws' : List Str) (v2' v3' v4' v5' : Option V), [some (.ref t), some (.ref L), some (.str (shName sh)), some x2, v4, v5] = [some (.ref t), some (.ref L), v2', v3', v4', v5'] ∧
          H5 L = some (.lst (ws'.map V.str)) ∧ Same H H5 ∧ ws' = r.w :: ((r.its.take (i + 1)).map It5.wds).flatten ∧ SqT K H5 t2 its := fun H5 v4 v5 s5 hl5 q5 => ⟨_, _, _, _, _, rfl, hl5, s5, ews2.symm, q5⟩
      refine ⟨T1, _, rfl, .inl (.inl upd_same), rfl, _, _, rfl, _, _, rfl, rfl, ?_⟩
      generalize upd H3 T1 (.tup [.str (shName sh), x2]) = H4 at *
      refine ⟨_, rfl, rfl, _, rfl, ?_⟩
      rw [decS]
      cases sh with
      | cells =>
        cases it with
        | cs ks =>
          obtain ⟨c, rfl, hc⟩ := numsD_inv (show Dp K H4 x2 (numsD ks) from hd4)
          rw [decide_eq_true (show shName .cells = "cells" from rfl)]
          have hw : (ks.map nS).length ≤ 90000 := by
            have : (It5.cs ks).wds = ks.map nS := rfl
            rw [this] at hwl
            omega
          refine iteT ⟨_, rfl, .inl ⟨rfl, _, .inl (.inl hL4)⟩, _, rfl, c, ks, rfl, hc, by rw [List.length_map] at hw; exact hw, fun n m => Nat.lt_trans (hf n m) (by decide), fun D1 H5 s5 nD hD => ?_⟩
          have hL5 := s5 _ _ hL4
          refine ⟨L, D1, _, _, rfl, rfl, hL5, hD, ?_, ?_⟩
          · rw [List.length_map, List.length_map]
            have : (It5.cs ks).wds = ks.map nS := rfl
            rw [this] at hwl
            exact Nat.le_trans hwl (by decide)
          · rw [← List.map_append]
            exact done _ _ _ (same_put (s34.trans s5) hL) upd_same (sqt_put hL5 (sqt_same s5 ht4))
        | _ => exact hf.elim
      | pairs =>
        cases it with
        | ps xs =>
          rw [decide_eq_false (show ¬ shName .pairs = "cells" by decide)]
          refine iteF ⟨_, rfl, rfl, _, rfl, ?_⟩
          rw [decS, decide_eq_true (show shName .pairs = "pairs" from rfl)]
          obtain ⟨t5, us, rfl, ht5, hus⟩ := dp_pairs_at (show Dp K H x2 (pairsD xs) from hd)
          have hf' : xs ≠ [] ∧ ∀ n ∈ (xs.map pairN).flatten, n < 100000 := hf
          have ewd : (It5.ps xs).wds = (xs.map pairW).flatten := rfl
          rw [ewd] at hwl
          have hul : us.length = xs.length := by rw [Cm.DpAll.len hus, List.length_map]
          refine iteT ⟨_, rfl, t5, rfl, ⟨_, sqt_same s34 ht5⟩, ?_⟩
          refine for_it (walk_tup (K := K) (a := t5) (xs := us)) (fun j σ H' => ∃ (ws2 : List Str) (v4 v5 : Option V), σ = [some (.ref t), some (.ref L), some (.str (shName .pairs)), some (.ref t5), v4, v5] ∧ H' L = some (.lst ((ws ++ ws2).map V.str)) ∧ Same H H' ∧
            ws2 = ((xs.take j).map pairW).flatten ∧ SqT K H' t2 its) ?_ (fun j σ H' _ z => ?_) ?_ ?_
          · exact ⟨[], v4, v5, rfl, by rw [List.append_nil]; exact hL4, s34, rfl, ht4⟩
          · obtain ⟨_, _, _, _, _, z, _⟩ := z
            exact sqt_same z ht5
          · rintro j v σ H5 H6 hj ⟨ws2, v4, v5, rfl, hL5, s5, ew2, q5⟩ ⟨rfl, ev⟩
            obtain ⟨d, ed, hd5⟩ := Cm.DpAll.atV hus ev
            obtain ⟨p, ep, rfl⟩ : ∃ p, xs[j]? = some p ∧ d = pairD p := by
              rw [List.getElem?_map] at ed
              obtain ⟨p, ep, e⟩ := Option.map_eq_some_iff.mp ed
              exact ⟨p, ep, e.symm⟩
            obtain ⟨tq, c, rfl, htq, hc⟩ := dp_pair_inv (dp_same s5 _ _ hd5)
            have nx := flat_next pairW ep
            have hl2 : ws.length + (ws2.length + (pairW p).length) ≤ 90000 := by
              have h1 := flat_take pairW xs (j + 1)
              rw [nx, List.length_append, ← ew2] at h1
              omega
            have hpl : (pairW p).length = p.2.length + 2 := by
              show (nS p.1 :: nS p.2.length :: p.2.map nS).length = _
              rw [List.length_cons, List.length_cons, List.length_map]
            have hb : ∀ n ∈ p.1 :: p.2.length :: p.2, n < 1000000 := fun n m => Nat.lt_trans (hf'.2 n (List.mem_flatten.mpr ⟨pairN p, List.mem_map.mpr ⟨p, List.mem_of_getElem? ep, rfl⟩, m⟩)) (by decide)
            refine ⟨tq, _, rfl, htq, rfl, _, _, rfl, _, _, rfl, rfl, ?_⟩
            refine ⟨_, rfl, .inl ⟨rfl, _, .inl (.inl hL5)⟩, _, rfl, _, rfl, c, _, rfl, .inr hc, by show 2 ≤ sizeLine; decide, fun p2 hp2 => ?_⟩
            have s6 := same_new (o := .tup [numv p.1, .int ((p.2.map numv).length : Nat)]) hp2
            refine ⟨_, rfl, .inr ⟨c, _, rfl, sqt_same s6 hc, ?_⟩⟩
            refine cat_any (.inl (.inl upd_same)) (sqt_same s6 hc) ?_ fun t6 H7 s7 ht6 => ?_
            · rw [List.length_map]
              exact Nat.le_trans (show 2 + p.2.length ≤ 90000 by omega) (by decide)
            · have ht6' : SqT K H7 t6 ((p.1 :: p.2.length :: p.2).map numv) := by
                have e : [numv p.1, .int ((p.2.map numv).length : Nat)] ++ p.2.map numv = (p.1 :: p.2.length :: p.2).map numv := by
                  rw [List.length_map]
                  rfl
                rw [← e]
                exact ht6
              refine ⟨t6, p.1 :: p.2.length :: p.2, rfl, ht6', by rw [List.length_cons, List.length_cons]; omega, hb, fun D1 H8 s8 nD hD => ?_⟩
              have s678 := (s6.trans s7).trans s8
              have hL8 := s678 _ _ hL5
              refine ⟨L, D1, _, _, rfl, rfl, hL8, hD, ?_, ?_⟩
              · have hpw : ((p.1 :: p.2.length :: p.2).map nS).length = (pairW p).length := rfl
                rw [List.length_map, List.length_map, hpw, List.length_append]
                exact Nat.le_trans (show ws.length + ws2.length + (pairW p).length ≤ 90000 by omega) (by decide)
              · refine ⟨ws2 ++ pairW p, _, _, rfl, ?_, same_put (s5.trans s678) hL, by rw [nx, ← ew2], sqt_put hL8 (sqt_same s678 q5)⟩
                rw [← List.map_append, ← List.append_assoc]
                exact upd_same
          · rintro σ H5 ⟨ws2, v4, v5, rfl, hL5, s5, ew2, q5⟩
            rw [List.take_of_length_le (by rw [hul]; exact Nat.le_refl _)] at ew2
            subst ew2
            exact done H5 v4 v5 s5 hL5 q5
        | _ => exact hf.elim
      | num =>
        cases it with
        | n m =>
          obtain rfl := numD_inv (show Dp K H4 x2 (numD m) from hd4)
          rw [decide_eq_false (show ¬ shName .num = "cells" by decide)]
          refine iteF ⟨_, rfl, rfl, _, rfl, ?_⟩
          rw [decS, decide_eq_false (show ¬ shName .num = "pairs" by decide)]
          refine iteF ⟨_, rfl, _, _, _, _, false, rfl, .ty _, .base (.int _), kit_int_tup, _, rfl, ?_⟩
          refine iteF ⟨_, rfl, .inl ⟨rfl, _, .inl (.inl hL4)⟩, _, rfl, .inl ⟨_, rfl, log_small (Nat.lt_trans (show m < 100000 from hf) (by decide)), L, _, _, rfl, rfl, hL4, ?_, ?_⟩⟩
          · have : (It5.n m).wds = [nS m] := rfl
            rw [this, List.length_singleton] at hwl
            rw [List.length_map]
            exact Nat.lt_of_le_of_lt (show ws.length ≤ 90000 by omega) (by decide)
          · refine done _ _ _ (same_put s34 hL) ?_ (sqt_put hL4 ht4)
            rw [List.map_append]
            exact upd_same
        | _ => exact hf.elim
      | val =>
        rw [decide_eq_false (show ¬ shName .val = "cells" by decide)]
        refine iteF ⟨_, rfl, rfl, _, rfl, ?_⟩
        rw [decS, decide_eq_false (show ¬ shName .val = "pairs" by decide)]
        refine iteF ?_
        cases it with
        | c m =>
          obtain ⟨c, rfl, hc⟩ : ∃ c, x2 = .ref c ∧ SqT K H4 c [.str m] := by
            cases (show Dp K H4 x2 (.tuple [.str m]) from hd4) with
            | tup a b =>
              cases b with
              | cons b1 b2 =>
                cases b1
                cases b2
                exact ⟨_, rfl, a⟩
          refine ⟨_, rfl, _, _, _, _, true, rfl, .ty _, tyx_tup hc, kit_tup, _, rfl, ?_⟩
          refine iteT ⟨_, rfl, .inl ⟨rfl, _, .inl (.inl hL4)⟩, _, rfl, c, _, _, _, rfl, rfl, hc, atI_nat (j := 0) rfl, L, _, _, rfl, rfl, hL4, ?_, ?_⟩
          · have : (It5.c m).wds = [m] := rfl
            rw [this, List.length_singleton] at hwl
            rw [List.length_map]
            exact Nat.lt_of_le_of_lt (show ws.length ≤ 90000 by omega) (by decide)
          · refine done _ _ _ (same_put s34 hL) ?_ (sqt_put hL4 ht4)
            rw [List.map_append]
            exact upd_same
        | v j =>
          cases (show Dp K H4 x2 (.int j) from hd4)
          refine ⟨_, rfl, _, _, _, _, false, rfl, .ty _, .base (.int _), kit_int_tup, _, rfl, ?_⟩
          refine iteF ⟨_, rfl, .inl ⟨rfl, _, .inl (.inl hL4)⟩, _, rfl, .inl ⟨_, rfl, log_val hf, L, _, _, rfl, rfl, hL4, ?_, ?_⟩⟩
          · have : (It5.v j).wds = [numS j] := rfl
            rw [this, List.length_singleton] at hwl
            rw [List.length_map]
            exact Nat.lt_of_le_of_lt (show ws.length ≤ 90000 by omega) (by decide)
          · refine done _ _ _ (same_put s34 hL) ?_ (sqt_put hL4 ht4)
            rw [List.map_append]
            exact upd_same
        | _ => exact hf.elim
      | op =>
        rw [decide_eq_false (show ¬ shName .op = "cells" by decide)]
        refine iteF ⟨_, rfl, rfl, _, rfl, ?_⟩
        rw [decS, decide_eq_false (show ¬ shName .op = "pairs" by decide)]
        refine iteF ?_
        cases it with
        | o m =>
          cases (show Dp K H4 x2 (.str m) from hd4)
          refine ⟨_, rfl, _, _, _, _, false, rfl, .ty _, .base (.str _), kit_str_tup, _, rfl, ?_⟩
          refine iteF ⟨_, rfl, .inl ⟨rfl, _, .inl (.inl hL4)⟩, _, rfl, .inr ⟨_, rfl, L, _, _, rfl, rfl, hL4, ?_, ?_⟩⟩
          · have : (It5.o m).wds = [m] := rfl
            rw [this, List.length_singleton] at hwl
            rw [List.length_map]
            exact Nat.lt_of_le_of_lt (show ws.length ≤ 90000 by omega) (by decide)
          · refine done _ _ _ (same_put s34 hL) ?_ (sqt_put hL4 ht4)
            rw [List.map_append]
            exact upd_same
        | _ => exact hf.elim
    · rintro σ H3 ⟨ws, v2, v3, v4, v5, rfl, hL3, s3, ews, ht3⟩
      refine ⟨_, rfl, k L H3 s3 hL ?_⟩
      rw [hL3, ews, List.take_of_length_le (Nat.le_refl _)]
      rfl
end
end K32

set_option linter.all false
/-! listings as texts -/
namespace Cm
open PySem L2 PySem.Spec PyProof.Rows
structure Lst where
  rows : List Rw
  starts : List Nat
  returns : List Nat
def Lst.lns (c : Lst) : List (List Str) := ("starts" :: c.starts.map nS) :: ("returns" :: c.returns.map nS) :: c.rows.map Rw.wds
def lineT (ws : List Str) : Str := Str.join " " ws ++ "\n"
def Lst.txt (c : Lst) : Str := Str.join "" (c.lns.map lineT)
def cost (ws : List Str) : Nat := (ws.map (·.length)).sum + ws.length + 2
structure Lst.ok (c : Lst) : Prop where
  rs : ∀ r ∈ c.rows, r.ok
  wd : ∀ r ∈ c.rows, r.wds.length ≤ 90000
  st : ∀ n ∈ c.starts, n < 100000
  re : ∀ n ∈ c.returns, n < 100000
  ls : c.starts.length ≤ 80000
  lr : c.returns.length ≤ 80000
  ln : c.rows.length ≤ 80000
  co : (c.lns.map cost).sum ≤ 1000000
def Lst.enc (c : Lst) : List PyData := [.tuple (c.rows.map Rw.enc), numsD c.starts, numsD c.returns]
theorem joinL_len (y : List Nat) : ∀ ps : List (List Nat), (TL.joinL y ps).length ≤ (ps.map List.length).sum + ps.length * y.length
  | [] => Nat.zero_le _
  | [p] => by show p.length ≤ p.length + 0 + _; omega
  | p :: q :: r => by
    have ih := joinL_len y (q :: r)
    rw [joinL_cons, List.length_append, List.length_append, List.map_cons, List.sum_cons]
    have e : (p :: q :: r).length * y.length = y.length + (q :: r).length * y.length := by
      rw [List.length_cons, Nat.succ_mul]
      omega
    omega
theorem tl_lens (ps : List Str) : ((ps.map TL.tl).map List.length).sum = (ps.map (·.length)).sum := by
  induction ps with
  | nil => rfl
  | cons p ps ih =>
    rw [List.map_cons, List.map_cons, List.map_cons, List.sum_cons, List.sum_cons, ih, show (TL.tl p).length = p.length from (len_cs p).symm]
theorem join_le (y : Str) (ps : List Str) : (Str.join y ps).length ≤ (ps.map (·.length)).sum + ps.length * y.length := by
  have h := joinL_len (TL.tl y) (ps.map TL.tl)
  rw [← TL.tl_join, tl_lens, List.length_map, show (TL.tl y).length = y.length from (len_cs y).symm] at h
  rw [len_cs]
  exact h
theorem line_le (ws : List Str) : (lineT ws).length ≤ cost ws := by
  unfold lineT cost
  have h := join_le " " ws
  have e : (" " : Str).length = 1 := by decide +kernel
  have e2 : ("\n" : Str).length = 1 := by decide +kernel
  rw [e, Nat.mul_one] at h
  have e3 : (Str.join " " ws ++ "\n").length = (Str.join " " ws).length + 1 := by
    rw [len_cs, show cs (Str.join " " ws ++ "\n") = cs (Str.join " " ws) ++ cs "\n" from TL.tl_append _ _, List.length_append, ← len_cs, ← len_cs, e2]
  omega
theorem cost_mem {ws : List Str} {l : List (List Str)} (m : ws ∈ l) : cost ws ≤ (l.map cost).sum := by
  induction l with
  | nil => cases m
  | cons a l ih =>
    rw [List.map_cons, List.sum_cons]
    rcases List.mem_cons.mp m with rfl | m
    · omega
    · have := ih m
      omega
theorem kj_join {X : Cx} {K : PySem.W.Frag} {o e : Expr} {to te : TE} {apos pos : Pos} (ho : PE X o to) (he : PE X e te) (h : X.K = K := by rfl) (hs : starEach [e] X.env = [(false, eval e X.env)] := by rfl)
    (hbase : attributeBase o "join" X.env (eval o X.env) = eval o X.env := by rfl) (hline : (apos.endLine == pos.line) = true := by rfl) :
    PE X (.Call (.Attribute o "join" apos) [e] [] pos) (tM1 (fun x xs H Q => ∃ a p, ∃ ys : List Str, x = .str a ∧ xs = [.ref p] ∧ (SqL K H p (ys.map V.str) ∨ SqT K H p (ys.map V.str)) ∧
      (ys.map (·.length)).sum + ys.length * a.length ≤ 16777216 ∧ Q (.str (Txt.join a ys)) H) to te) := by
  subst h
  exact pe_join ho he hs hbase hline
end Cm

namespace K32
open PySem L2 Cm
def spJText (K : PySem.W.Frag) (C : Addr) : Sp := fun vs H Q _ => ∃ (o : Addr) (c : Lst), vs = [.ref o] ∧ Ob K H C namesJ o c.enc ∧ c.ok ∧ ∀ H', Same H H' → Q (.str c.txt) H'
section
variable {P : Program} {w : World} {K : PySem.W.Frag} {mg : Str → Option Value} {base : Heap} {C : Addr}
abbrev s_p_jump_text : Stmt := top 38
abbrev N_p_jump_text : List Str := ["code", "lines", "row", "line"]
theorem sc_p_jump_text : FnScope N_p_jump_text ["code"] (defScope s_p_jump_text) := ⟨rfl, rfl, rfl, by decide +kernel, rfl, by decide +kernel, by decide +kernel⟩
theorem ok_jump_text (T : Txt mg) (TJ : ClsT K mg "JumpCode" C namesJ) (c_p_texts_of : Cl P w K mg base 1 "_texts_of" (spTexts K)) (c_p_words_of : Cl P w K mg base 2 "_words_of" (spWords K)) (D : At K mg "jump_text" s_p_jump_text ["code"]) : Cl P w K mg base 3 "jump_text" (spJText K C) := by
  refine cl_of D sc_p_jump_text (fun vs H Q E h => ?_) fun f cdv A outer s H vs Q E hr h => ?_
  · obtain ⟨o, c, rfl, _⟩ := h
    rfl
  · obtain ⟨o, c, rfl, ho, hc, k⟩ := h
    refine ⟨_, (pss_mid (ps_set (i := 1) sc_p_jump_text.nd rfl (Or.inl rfl) (pe_lst (pa_cons (pe_op op_cat (pe_lst (pa_cons pe_str pa_nil)) (pe_c c_p_texts_of hr (by decide) (by rfl) (pa_cons (pe_fld (pv 0) rfl) pa_nil))) (pa_cons (pe_op op_cat (pe_lst (pa_cons pe_str pa_nil)) (pe_c c_p_texts_of hr (by decide) (by rfl) (pa_cons (pe_fld (pv 0) rfl) pa_nil))) pa_nil))))
      (pss_mid (ps_expr (pe_bm PySem.F.plainAttrs_list PySem.F.slot_list_extend PySem.F.type_list_extend mt_extend (pv 1) (pa_cons (pe_lc (own := [("row", 2)]) rfl sc_p_jump_text.nd (pi_tup (pe_fld (pv 0) rfl)) (blkOk_by (N := N_p_jump_text) (sc := defScope s_p_jump_text) (by decide +kernel))
      (fun _ _ _ _ _ => (pg_name (i := 2) sc_p_jump_text.nd rfl (Or.inl rfl)))
      (fun _ _ _ _ _ => pts_nil)
      (fun _ _ _ _ _ => (pe_c c_p_words_of hr (by decide) (by rfl) (pa_cons (pv 2) pa_nil)))) pa_nil)))
      (pss_one (ps_ret (pe_join pe_str (pe_lc (own := [("line", 3)]) rfl sc_p_jump_text.nd (pi_list (pv 1)) (blkOk_by (N := N_p_jump_text) (sc := defScope s_p_jump_text) (by decide +kernel))
      (fun _ _ _ _ _ => (pg_name (i := 3) sc_p_jump_text.nd rfl (Or.inl rfl)))
      (fun _ _ _ _ _ => pts_nil)
      (fun _ _ _ _ _ => (pe_op op_add_str (kj_join (K := K) pe_str (pv 3)) pe_str)))))))), ?_⟩
    refine ⟨fun σ' H' => ∃ (L A B : Addr), σ' = [some (.ref o), some (.ref L), none, none] ∧ H L = none ∧ Same H H' ∧ H' L = some (.lst [.ref A, .ref B]) ∧ A ≠ L ∧ B ≠ L ∧ H' A = some (.lst ((("starts" : Str) :: c.starts.map nS).map V.str)) ∧ H' B = some (.lst ((("returns" : Str) :: c.returns.map nS).map V.str)), ?_, ?_⟩
    · refine ⟨by show 1 ≤ sizeLine; decide, fun A0 hA0 => ?_⟩
      have s1 := same_new (o := .lst [.str "starts"]) hA0
      obtain ⟨dx, fs, v, h1, h2, h3⟩ := (ho.same s1).fld 1 rfl rfl (by decide +kernel)
      obtain ⟨t1, rfl, ht1⟩ := numsD_inv h3
      refine ⟨_, rfl, o, C, dx, _, _, rfl, h1, TJ.ins.cl, TJ.no _ (by decide +kernel), h2, t1, c.starts, rfl, ht1, Nat.le_trans hc.ls (by decide), fun n m => Nat.lt_trans (hc.st n m) (by decide), fun D1 H2 s2 nD1 hD1 => ?_⟩
      refine ⟨A0, D1, _, _, rfl, rfl, s2 _ _ upd_same, hD1, ?_, fun A hA => ?_⟩
      · have := hc.ls
        rw [List.length_map, List.length_map]
        exact Nat.le_trans (show [V.str "starts"].length + c.starts.length ≤ 80001 by show 1 + _ ≤ _; omega) (by decide)
      have s3 := same_new (o := .lst ([V.str "starts"] ++ (c.starts.map nS).map V.str)) hA
      refine ⟨by show 1 ≤ sizeLine; decide, fun B0 hB0 => ?_⟩
      have s4 := same_new (o := .lst [.str "returns"]) hB0
      have s14 := ((s1.trans s2).trans s3).trans s4
      obtain ⟨dx2, fs2, v2, g1, g2, g3⟩ := (ho.same s14).fld 2 rfl rfl (by decide +kernel)
      obtain ⟨t2, rfl, ht2⟩ := numsD_inv g3
      refine ⟨_, rfl, o, C, dx2, _, _, rfl, g1, TJ.ins.cl, TJ.no _ (by decide +kernel), g2, t2, c.returns, rfl, ht2, Nat.le_trans hc.lr (by decide), fun n m => Nat.lt_trans (hc.re n m) (by decide), fun D2 H5 s5 nD2 hD2 => ?_⟩
      refine ⟨B0, D2, _, _, rfl, rfl, s5 _ _ upd_same, hD2, ?_, fun B hB => ?_⟩
      · have := hc.lr
        rw [List.length_map, List.length_map]
        exact Nat.le_trans (show [V.str "returns"].length + c.returns.length ≤ 80001 by show 1 + _ ≤ _; omega) (by decide)
      have s6 := same_new (o := .lst ([V.str "returns"] ++ (c.returns.map nS).map V.str)) hB
      refine ⟨by show 2 ≤ sizeLine; decide, fun L hL => ?_⟩
      have s7 := same_new (o := .lst [.ref A, .ref B]) hL
      have eA := s6 _ _ (s5 _ _ (s4 _ _ (upd_same (H := H2) (a := A) (o := .lst ([V.str "starts"] ++ (c.starts.map nS).map V.str)))))
      have eB : (upd H5 B (.lst ([V.str "returns"] ++ (c.returns.map nS).map V.str))) B = _ := upd_same
      refine ⟨L, A, B, rfl, free_of ((s14.trans s5).trans s6) hL, ((s14.trans s5).trans s6).trans s7, upd_same, fun z => ?_, fun z => ?_, s7 _ _ eA, s7 _ _ eB⟩
      · rw [← z, eA] at hL
        cases hL
      · rw [← z, eB] at hL
        cases hL
    · rintro σ' H' ⟨L, A, B, rfl, hLn, s1, hL, neA, neB, hA, hB⟩
      obtain ⟨dx, fs, v, h1, h2, h3⟩ := (ho.same s1).fld 0 rfl rfl (by decide +kernel)
      obtain ⟨tr, us, rfl, htr, hus⟩ : ∃ t us, v = .ref t ∧ SqT K H' t us ∧ DpAll K H' us (c.rows.map Rw.enc) := by
        cases (show Dp K H' v (.tuple (c.rows.map Rw.enc)) from h3) with
        | tup a b => exact ⟨_, _, rfl, a, b⟩
      have hul : us.length = c.rows.length := by rw [Cm.DpAll.len hus, List.length_map]
      refine ⟨fun σ' H2 => ∃ (l : List (Addr × List Str)), σ' = [some (.ref o), some (.ref L), none, none] ∧ Same H H2 ∧ H2 L = some (.lst (l.map fun p => .ref p.1)) ∧ (∀ p ∈ l, H2 p.1 = some (.lst (p.2.map V.str))) ∧ l.map (·.2) = c.lns, ?_, ?_⟩
      · refine ⟨_, rfl, .inl ⟨rfl, _, .inl (.inl hL)⟩, _, rfl, o, C, dx, _, _, rfl, h1, TJ.ins.cl, TJ.no _ (by decide +kernel), h2, tr, rfl, ⟨_, htr⟩, fun D1 hD1 => ?_⟩
        refine lc_it (walk_tup (K := K) (a := tr) (xs := us)) (fun i H2 => ∃ l : List (Addr × List Str), Same H' H2 ∧ H2 D1 = some (.lst (l.map fun p => .ref p.1)) ∧ (∀ p ∈ l, H2 p.1 = some (.lst (p.2.map V.str)) ∧ p.1 ≠ D1 ∧ p.1 ≠ L) ∧ l.map (·.2) = (c.rows.take i).map Rw.wds) ?_ (fun i H2 _ z => ?_) ?_ ?_
        · exact ⟨[], same_new hD1, upd_same, (fun p m => by cases m), rfl⟩
        · obtain ⟨l, s2, _⟩ := z
          exact sqt_same s2 htr
        · rintro i x H2 H3 hi ⟨l, s2, hD2, hl, el⟩ ⟨rfl, ev⟩
          obtain ⟨d, ed, hd⟩ := Cm.DpAll.atV hus ev
          obtain ⟨r, er, rfl⟩ : ∃ r, c.rows[i]? = some r ∧ d = r.enc := by
            rw [List.getElem?_map] at ed
            obtain ⟨p, ep, e⟩ := Option.map_eq_some_iff.mp ed
            exact ⟨p, ep, e.symm⟩
          have mr := List.mem_of_getElem? er
          have hll : l.length ≤ 80000 := by
            have := congrArg List.length el
            rw [List.length_map, List.length_map, List.length_take] at this
            have := hc.ln
            omega
          refine ⟨rfl, ?_⟩
          refine ⟨_, rfl, x, r, rfl, dp_same s2 _ _ hd, hc.rs r mr, hc.wd r mr, fun D2 H4 s4 nD hD => ?_⟩
          have hD4 := s4 _ _ hD2
          have n1 : D2 ≠ D1 := fun z => by
            rw [z, hD2] at nD
            cases nD
          have n2 : D2 ≠ L := fun z => by
            rw [z, s2 _ _ hL] at nD
            cases nD
          refine ⟨_, hD4, by rw [List.length_map]; exact Nat.lt_of_le_of_lt hll (by decide), l ++ [(D2, r.wds)], same_put (s2.trans s4) hD1, ?_, fun p m => ?_, ?_⟩
          · rw [List.map_append]
            exact upd_same
          · rcases List.mem_append.mp m with m | m
            · obtain ⟨a1, a2, a3⟩ := hl p m
              exact ⟨by rw [upd_ne a2]; exact s4 _ _ a1, a2, a3⟩
            · rw [List.mem_singleton.mp m]
              exact ⟨by rw [upd_ne n1]; exact hD, n1, n2⟩
          · rw [List.map_append, el, List.take_succ, er]
            simp
        · rintro H2 ⟨l, s2, hD2, hl, el⟩
          have hL2 := s2 _ _ hL
          rw [List.take_of_length_le (by rw [hul]; exact Nat.le_refl _)] at el
          have hll : l.length = c.rows.length := by
            have := congrArg List.length el
            rw [List.length_map, List.length_map] at this
            exact this
          refine ⟨L, D1, _, _, rfl, rfl, hL2, hD2, ?_, ?_⟩
          · rw [List.length_map, hll]
            have := hc.ln
            exact Nat.le_trans (show [V.ref A, V.ref B].length + c.rows.length ≤ 80002 by show 2 + _ ≤ _; omega) (by decide)
          · refine ⟨(A, "starts" :: c.starts.map nS) :: (B, "returns" :: c.returns.map nS) :: l, rfl, same_put (s1.trans s2) hLn, upd_same, fun p m => ?_, ?_⟩
            · rcases List.mem_cons.mp m with rfl | m
              · show upd H2 L _ A = _
                rw [upd_ne neA]
                exact s2 _ _ hA
              · rcases List.mem_cons.mp m with rfl | m
                · show upd H2 L _ B = _
                  rw [upd_ne neB]
                  exact s2 _ _ hB
                · obtain ⟨a1, a2, a3⟩ := hl p m
                  rw [upd_ne a3]
                  exact a1
            · show _ :: _ :: l.map (·.2) = _
              rw [el]
              rfl
      · rintro σ' H2 ⟨l, rfl, s2, hL2, hl, el⟩
        have hll : l.length = c.rows.length + 2 := by
          have := congrArg List.length el
          rw [List.length_map] at this
          rw [this]
          show (c.rows.map Rw.wds).length + 1 + 1 = _
          rw [List.length_map]
        have hcost : ∀ p ∈ l, cost p.2 ≤ 1000000 := fun p m => Nat.le_trans (cost_mem (by rw [← el]; exact List.mem_map.mpr ⟨p, m, rfl⟩)) hc.co
        refine ⟨⟨_, rfl⟩, _, rfl, L, rfl, ⟨_, .inl (.inl hL2)⟩, fun D1 hD1 => ?_⟩
        refine lc_mapF (K := K) l (fun p => .ref p.1) (fun p => .str (lineT p.2)) (fun p => .str (lineT p.2)) (fun _ => rfl) (fun H v x h => by cases h; rfl) walk_list hD1 (by have := hc.ln; omega) (fun H3 s => .inl (.inl (s _ _ hL2))) (fun p H3 m s3 Q1 Q0 q1 => ?_) (fun H3 s3 hD3 => ?_)
        · have hcp := hcost p m
          unfold cost at hcp
          have hle := line_le p.2
          have e1 : (" " : Str).length = 1 := by decide +kernel
          have hj : (Str.join " " p.2).length + ("
" : Str).length ≤ 1000000 := by
            have := join_le " " p.2
            have e2 : ("
" : Str).length = 1 := by decide +kernel
            rw [e1, Nat.mul_one] at this
            omega
          refine ⟨rfl, ⟨_, rfl⟩, _, rfl, " ", p.1, p.2, rfl, rfl, .inl (.inl (.inl (s3 _ _ (hl p m)))), by rw [e1, Nat.mul_one]; omega, ?_⟩
          rw [TL.join_eq]
          exact ⟨_, _, rfl, rfl, Nat.le_trans hj (by decide), q1 _ _ (Same.refl _) (.str _)⟩
        · refine ⟨"", D1, l.map fun p => lineT p.2, rfl, rfl, .inl (.inl (.inl (by rw [hD3, List.map_map]; rfl))), ?_, ?_⟩
          · have e0 : ("" : Str).length = 0 := by decide +kernel
            rw [e0, Nat.mul_zero, Nat.add_zero]
            refine Nat.le_trans ?_ (Nat.le_trans hc.co (by decide))
            rw [← el]
            clear hD3 el hcost hll hl hL2
            induction l with
            | nil => exact Nat.le_refl _
            | cons p l ih =>
              show (lineT p.2).length + _ ≤ cost p.2 + _
              have := line_le p.2
              exact Nat.add_le_add this ih
          · rw [TL.join_eq]
            have e : l.map (fun p => lineT p.2) = c.lns.map lineT := by rw [← el, List.map_map]; rfl
            rw [e]
            exact k H3 (s2.trans s3)
end
end K32

set_option linter.all false
/-! listings read -/
namespace Cm
open PySem L2 PySem.Spec PyProof.Rows
def wordOf (x : Str) : Str := (splS 32 x).headD ""
def restOf (x : Str) : List Str := (splS 32 x).drop 1
theorem cut_words (x : Str) : splS 32 x = wordOf x :: restOf x := by
  unfold wordOf restOf
  cases e : splS 32 x with
  | nil => exact absurd e (splS_ne 32 x)
  | cons w ws => rfl
def headOf (h x : Str) : Option (List Nat) := if wordOf x = h then numsW (restOf x) else none
def lineOf (x : Str) : Option Rw := rowOf (wordOf x) (restOf x)
def goodAt : Nat → Str → Bool
  | 0, x => (headOf "starts" x).isSome
  | 1, x => (headOf "returns" x).isSome
  | _, x => (lineOf x).isSome
def firstBad : Nat → List Str → Nat
  | _, [] => 0
  | i, x :: xs => if goodAt i x = true then firstBad (i + 1) xs else i + 1
def badL (ls : List Str) : Nat := if firstBad 0 ls.dropLast ≠ 0 then firstBad 0 ls.dropLast else if ls.getLast? ≠ some ("" : Str) ∨ ls.length < 3 then ls.length else 0
def headsO : List Str → List (Option (List Nat))
  | [] => []
  | [x] => [headOf "starts" x]
  | x :: y :: _ => [headOf "starts" x, headOf "returns" y]
structure RddE (xs : List Str) (hs : List (List Nat)) (rs : List Rw) : Prop where
  h : hs.map some = headsO xs
  r : rs.map some = (xs.drop 2).map lineOf
theorem some_inj {α : Type} : ∀ {a b : List α}, a.map some = b.map some → a = b
  | [], [], _ => rfl
  | [], _ :: _, h => by cases h
  | _ :: _, [], h => by cases h
  | x :: a, y :: b, h => by
    have h1 : some x :: a.map some = some y :: b.map some := h
    injection h1 with h2 h3
    rw [Option.some.inj h2, some_inj h3]
theorem RddE.nil : RddE [] [] [] := ⟨rfl, rfl⟩
theorem RddE.s0 {z : Str} {hs : List (List Nat)} {rs : List Rw} (h : RddE [] hs rs) {a : List Nat} (e : headOf "starts" z = some a) : RddE [z] (hs ++ [a]) rs := by
  obtain ⟨h1, h2⟩ := h
  have e1 : hs = [] := List.map_eq_nil_iff.mp h1
  have e2 : rs = [] := List.map_eq_nil_iff.mp h2
  subst e1 e2
  exact ⟨by show [some a] = [headOf "starts" z]; rw [e], rfl⟩
theorem RddE.s1 {y z : Str} {hs : List (List Nat)} {rs : List Rw} (h : RddE [y] hs rs) {a : List Nat} (e : headOf "returns" z = some a) : RddE [y, z] (hs ++ [a]) rs := by
  obtain ⟨h1, h2⟩ := h
  have e2 : rs = [] := List.map_eq_nil_iff.mp h2
  subst e2
  refine ⟨?_, rfl⟩
  rw [List.map_append, h1]
  show [headOf "starts" y, some a] = [headOf "starts" y, headOf "returns" z]
  rw [e]
theorem RddE.s2 {l : List Str} {z : Str} {hs : List (List Nat)} {rs : List Rw} (h : RddE l hs rs) (hl : 2 ≤ l.length) {r : Rw} (e : lineOf z = some r) : RddE (l ++ [z]) hs (rs ++ [r]) := by
  obtain ⟨h1, h2⟩ := h
  match l, hl with
  | x :: y :: l, _ =>
    refine ⟨h1, ?_⟩
    rw [List.map_append, h2]
    show (l.map lineOf) ++ [some r] = (l ++ [z]).map lineOf
    rw [List.map_append, ← e]
    rfl
theorem RddE.uniq {xs : List Str} {hs hs' : List (List Nat)} {rs rs' : List Rw} (h : RddE xs hs rs) (h' : RddE xs hs' rs') : hs = hs' ∧ rs = rs' := ⟨some_inj (h.h.trans h'.h.symm), some_inj (h.r.trans h'.r.symm)⟩
theorem sp32 : cs (" " : Str) = [32] := by decide +kernel
theorem sp10 : cs ("\n" : Str) = [10] := by decide +kernel
theorem headOf_inv {h x : Str} {a : List Nat} (e : headOf h x = some a) : Str.join " " (h :: a.map nS) = x ∧ (∀ n ∈ a, n < 100000) ∧ h :: a.map nS = splS 32 x := by
  unfold headOf at e
  split at e
  · rename_i hw
    obtain ⟨e1, e2⟩ := nums_inv e
    have : h :: a.map nS = splS 32 x := by rw [e1, ← hw, cut_words]
    refine ⟨?_, e2, this⟩
    rw [this]
    exact splS_join sp32 x
  · cases e
theorem lineOf_inv {x : Str} {r : Rw} (e : lineOf x = some r) : Str.join " " r.wds = x ∧ r.wds = splS 32 x := by
  have := (rowOf_inv e).1
  have e2 : r.wds = splS 32 x := by rw [this, cut_words]
  exact ⟨by rw [e2]; exact splS_join sp32 x, e2⟩
theorem itemOf_fit {s : Sh} {w : Str} {i : It5} (hs : s ≠ .cells) (hp : s ≠ .pairs) (h : itemOf s w = some i) : fitI s i := by
  cases s with
  | cells => exact absurd rfl hs
  | pairs => exact absurd rfl hp
  | op =>
    have h' : (if w ∈ opsW then some (It5.o w) else none) = some i := h
    split at h'
    · cases h'
      rename_i m
      exact m
    · cases h'
  | num =>
    obtain ⟨n, en, rfl⟩ := Option.map_eq_some_iff.mp (show (numOf w).map It5.n = some i from h)
    exact (numOf_inv en).2
  | val =>
    have h' : (if w ∈ consW then some (It5.c w) else (valOf w).map .v) = some i := h
    split at h'
    · cases h'
      rename_i m
      exact m
    · obtain ⟨j, ej, rfl⟩ := Option.map_eq_some_iff.mp h'
      exact (valOf_inv ej).2
theorem pairsF_small : ∀ (f : Nat) {ns : List Nat} {ps : List (Nat × List Nat)}, pairsF f ns = some ps → (∀ n ∈ ns, n < 100000) → ∀ n ∈ (ps.map pairN).flatten, n < 100000 := fun f ns ps h hn n m => hn n (by rw [← pairsF_inv f h]; exact m)
theorem pairsOf_fit {ws : List Str} {ps : List (Nat × List Nat)} (h : pairsOf ws = some ps) : ps ≠ [] ∧ ∀ n ∈ (ps.map pairN).flatten, n < 100000 := by
  unfold pairsOf at h
  split at h
  · cases h
  · cases h
  · rename_i ns ne e
    refine ⟨fun z => ?_, pairsF_small _ h (nums_inv e).2⟩
    have := pairsF_inv _ h
    rw [z] at this
    exact ne this.symm
theorem items_fits : ∀ (ss : List Sh) {ws : List Str} {is : List It5} {l : List Str}, items ss ws = some (is, l) → fits ss is
  | [], ws, is, l, h => by cases h; trivial
  | s :: ss, ws, is, l, h => by
    have step : ∀ {w : Str} {ws' : List Str}, s ≠ .cells → s ≠ .pairs → (match itemOf s w with
        | none => none
        | some i => (items ss ws').map fun (p : List It5 × List Str) => (i :: p.1, p.2)) = some (is, l) → fits (s :: ss) is := fun {w ws'} n1 n2 e => by
      split at e
      · cases e
      · rename_i i ei
        obtain ⟨p, ep, e2⟩ := Option.map_eq_some_iff.mp e
        cases e2
        exact ⟨itemOf_fit n1 n2 ei, items_fits ss (show items ss ws' = some (p.1, p.2) from ep)⟩
    cases s with
    | cells =>
      have h' : (match numsW ws with
        | none => none
        | some ks => (items ss []).map fun (p : List It5 × List Str) => (It5.cs ks :: p.1, p.2)) = some (is, l) := h
      split at h'
      · cases h'
      · rename_i ks ek
        obtain ⟨p, ep, e2⟩ := Option.map_eq_some_iff.mp h'
        cases e2
        exact ⟨(nums_inv ek).2, items_fits ss (show items ss [] = some (p.1, p.2) from ep)⟩
    | pairs =>
      have h' : (match pairsOf ws with
        | none => none
        | some ks => (items ss []).map fun (p : List It5 × List Str) => (It5.ps ks :: p.1, p.2)) = some (is, l) := h
      split at h'
      · cases h'
      · rename_i ks ek
        obtain ⟨p, ep, e2⟩ := Option.map_eq_some_iff.mp h'
        cases e2
        exact ⟨pairsOf_fit ek, items_fits ss (show items ss [] = some (p.1, p.2) from ep)⟩
    | num =>
      cases ws with
      | nil => cases h
      | cons w ws => exact step (by decide) (by decide) h
    | val =>
      cases ws with
      | nil => cases h
      | cons w ws => exact step (by decide) (by decide) h
    | op =>
      cases ws with
      | nil => cases h
      | cons w ws => exact step (by decide) (by decide) h
theorem shape_last {w : Str} {ss : List Sh} (h : shapeOf w = some ss) : lastB ss = true := by
  have key : (shapeOf w).all lastB = true := by
    have step : ∀ {c : Prop} [Decidable c] {a b : Option (List Sh)}, a.all lastB = true → b.all lastB = true → (if c then a else b).all lastB = true := fun {c} _ {a b} h1 h2 => by
      by_cases q : c
      · rw [if_pos q]
        exact h1
      · rw [if_neg q]
        exact h2
    unfold shapeOf
    iterate 17 refine step rfl ?_
    rfl
  rw [h] at key
  exact key
theorem rowOf_fits {w : Str} {ws : List Str} {r : Rw} (h : rowOf w ws = some r) : r.ok := by
  unfold rowOf at h
  split at h
  · cases h
  · rename_i ss es
    split at h
    · rename_i is e
      cases h
      exact ⟨ss, es, shape_last es, items_fits ss e⟩
    · cases h
theorem joinL_nl : ∀ xs : List (List Nat), TL.joinL [10] (xs ++ [[]]) = (xs.map (· ++ [10])).flatten
  | [] => rfl
  | [x] => by
    show x ++ ([10] ++ []) = (x ++ [10]) ++ []
    simp
  | x :: y :: r => by
    have ih := joinL_nl (y :: r)
    show TL.joinL [10] (x :: y :: (r ++ [[]])) = (x ++ [10]) ++ ((y :: r).map (· ++ [10])).flatten
    rw [joinL_cons, ← ih]
    show x ++ ([10] ++ TL.joinL [10] (y :: (r ++ [[]]))) = x ++ [10] ++ TL.joinL [10] (y :: (r ++ [[]]))
    simp
theorem joinL_emp : ∀ xs : List (List Nat), TL.joinL [] xs = xs.flatten
  | [] => rfl
  | [x] => by simp [TL.joinL]
  | x :: y :: r => by
    rw [joinL_cons, joinL_emp (y :: r)]
    rfl
/-- lines, each with its end, are the text that is cut into them -/
theorem glue {x : Str} {xs : List Str} (h : splS 10 x = xs ++ [("" : Str)]) : Str.join "" (xs.map fun l => l ++ "\n") = x := by
  apply cs_inj
  rw [← splS_join sp10 x, h, show cs (Str.join "" (xs.map fun l => l ++ "\n")) = TL.tl (Str.join "" (xs.map fun l => l ++ "\n")) from rfl, TL.tl_join,
    show cs (Str.join "\n" (xs ++ [("" : Str)])) = TL.tl (Str.join "\n" (xs ++ [("" : Str)])) from rfl, TL.tl_join, show TL.tl ("" : Str) = [] from by decide +kernel, show TL.tl ("\n" : Str) = [10] from sp10, List.map_append]
  show _ = TL.joinL [10] (xs.map TL.tl ++ [TL.tl ""])
  rw [show TL.tl ("" : Str) = [] from by decide +kernel, joinL_nl, joinL_emp, List.map_map, List.map_map]
  congr 1
  apply List.map_congr_left
  intro l _
  show TL.tl (l ++ "\n") = TL.tl l ++ [10]
  rw [TL.tl_append, show TL.tl ("\n" : Str) = [10] from sp10]
theorem RddE.txt {xs : List Str} {a b : List Nat} {rs : List Rw} (h : RddE xs [a, b] rs) : (Lst.mk rs a b).lns.map (Str.join " ") = xs ∧ (Lst.mk rs a b).lns = xs.map (splS 32) ∧ (∀ n ∈ a, n < 100000) ∧ (∀ n ∈ b, n < 100000) ∧ ∀ r ∈ rs, r.ok := by
  obtain ⟨h1, h2⟩ := h
  match xs, h1, h2 with
  | [x], h1, _ => exact absurd (congrArg List.length (show [some a, some b] = [headOf "starts" x] from h1)) (by show ¬ 2 = 1; decide)
  | x :: y :: l, h1, h2 =>
    have h1' : [some a, some b] = [headOf "starts" x, headOf "returns" y] := h1
    injection h1' with e1 e2
    injection e2 with e2 _
    obtain ⟨p1, p2, p3⟩ := headOf_inv e1.symm
    obtain ⟨q1, q2, q3⟩ := headOf_inv e2.symm
    have key : ∀ (rs : List Rw) (l : List Str), rs.map some = l.map lineOf → (rs.map Rw.wds).map (Str.join " ") = l ∧ rs.map Rw.wds = l.map (splS 32) ∧ ∀ r ∈ rs, r.ok := by
      intro rs
      induction rs with
      | nil =>
        intro l h
        have : l = [] := List.map_eq_nil_iff.mp h.symm
        subst this
        exact ⟨rfl, rfl, fun r m => by cases m⟩
      | cons r rs ih =>
        intro l h
        cases l with
        | nil => cases h
        | cons z l =>
          have h' : some r :: rs.map some = lineOf z :: l.map lineOf := h
          injection h' with g1 g2
          obtain ⟨i1, i2, i3⟩ := ih l g2
          obtain ⟨j1, j2⟩ := lineOf_inv g1.symm
          refine ⟨?_, ?_, fun r' m => ?_⟩
          · show Str.join " " r.wds :: _ = _
            rw [j1, i1]
          · show r.wds :: _ = _
            rw [j2, i2]
            rfl
          · rcases List.mem_cons.mp m with rfl | m
            · exact rowOf_fits g1.symm
            · exact i3 r' m
    obtain ⟨k1, k2, k3⟩ := key rs l h2
    refine ⟨?_, ?_, p2, q2, k3⟩
    · show Str.join " " ("starts" :: a.map nS) :: Str.join " " ("returns" :: b.map nS) :: (rs.map Rw.wds).map (Str.join " ") = _
      rw [p1, q1, k1]
    · show (("starts" : Str) :: a.map nS) :: (("returns" : Str) :: b.map nS) :: rs.map Rw.wds = _
      rw [p3, q3, k2]
      rfl
theorem cost_split (x : Str) : cost (splS 32 x) ≤ 2 * x.length + 3 := by
  unfold cost
  have h1 := splS_sum 32 x
  have h2 := splS_len 32 x
  omega
theorem cost_all : ∀ xs : List Str, ((xs.map (splS 32)).map cost).sum ≤ 2 * (xs.map (·.length)).sum + 3 * xs.length
  | [] => Nat.le_refl _
  | x :: xs => by
    have ih := cost_all xs
    have := cost_split x
    rw [List.map_cons, List.map_cons, List.map_cons, List.sum_cons, List.sum_cons, List.length_cons]
    omega
theorem RddE.code {x : Str} {xs : List Str} {a b : List Nat} {rs : List Rw} (h : RddE xs [a, b] rs) (hx : splS 10 x = xs ++ [("" : Str)]) (hl : x.length ≤ 60000) : (Lst.mk rs a b).ok ∧ (Lst.mk rs a b).txt = x := by
  obtain ⟨h1, h2, h3, h4, h5⟩ := h.txt
  have hn : xs.length ≤ 60000 := by
    have := splS_len 10 x
    rw [hx, List.length_append, List.length_singleton] at this
    omega
  have hsum : (xs.map (·.length)).sum ≤ x.length := by
    have := splS_sum 10 x
    rw [hx, List.map_append, List.sum_append] at this
    omega
  have hlen : ∀ ws ∈ (Lst.mk rs a b).lns, ws.length ≤ 60001 := fun ws m => by
    rw [h2] at m
    obtain ⟨z, mz, rfl⟩ := List.mem_map.mp m
    have e1 := splS_len 32 z
    have e2 : z.length ≤ x.length := splS_each (c := 10) (by rw [hx]; exact List.mem_append.mpr (.inl mz))
    omega
  have hrl : rs.length ≤ 60000 := by
    have := congrArg List.length h2
    rw [List.length_map] at this
    have e : (Lst.mk rs a b).lns.length = rs.length + 2 := by
      show (rs.map Rw.wds).length + 1 + 1 = _
      rw [List.length_map]
    omega
  refine ⟨⟨h5, fun r m => Nat.le_trans (hlen r.wds (List.mem_cons_of_mem _ (List.mem_cons_of_mem _ (List.mem_map.mpr ⟨r, m, rfl⟩)))) (by decide), h3, h4, ?_, ?_, Nat.le_trans hrl (by decide), ?_⟩, ?_⟩
  · have := hlen ("starts" :: a.map nS) List.mem_cons_self
    rw [List.length_cons, List.length_map] at this
    show a.length ≤ 80000
    omega
  · have := hlen ("returns" :: b.map nS) (List.mem_cons_of_mem _ List.mem_cons_self)
    rw [List.length_cons, List.length_map] at this
    show b.length ≤ 80000
    omega
  · rw [h2]
    have := cost_all xs
    omega
  · refine Eq.trans ?_ (glue hx)
    unfold Lst.txt
    congr 1
    rw [← h1, List.map_map]
    rfl
end Cm

/-! enumerate(list, start) in a for -/
namespace Cm
open PySem L2 PySem.Spec PyProof.Rows
/-- the list at a as it stands at each turn, each item in a new pair with k more than its place -/
def IteK (K : PySem.W.Frag) (k : Int) (a : Addr) : It :=
  ⟨fun i H => ∃ (xs : List V) (x : V), SqL K H a xs ∧ xs[i]? = some x, fun i H v H' => ∃ T x, v = .ref T ∧ H T = Option.none ∧ H' = upd H T (.tup [.int (k + (i : Nat)), x]) ∧ ∀ xs, SqL K H a xs → xs[i]? = some x,
    fun i H => ∃ xs : List V, SqL K H a xs ∧ xs.length ≤ i⟩
theorem turn_enumK {P : Program} {w : World} {K : PySem.W.Frag} {elts : List Expr} {kk : Nat} {tpos : Pos} (k : Int) (a e it : Addr) :
    Turn P w K (.Tuple elts kk tpos) (IteK K k a) [e, it] e (fun i h => (∃ old, IsEnum h e it (k + ((i : Nat) : Int)) old) ∧ h.IsListIter it a i ∧ e ≠ it ∧ a ≠ it ∧ a ≠ e) where
  mem := by simp
  obj := fun i h st b hb => by
    obtain ⟨⟨old, he⟩, ⟨o, ho, hc, hd⟩, _⟩ := st
    rcases (show b = e ∨ b = it by simpa using hb) with z | z
    · rw [z]; exact ⟨_, he, fun v q => nomatch q⟩
    · rw [z]; exact ⟨o, ho, fun v q => by rw [hd] at q; cases q⟩
  keep := fun i h h' st k => let ⟨⟨old, he⟩, hi, hne⟩ := st; ⟨⟨old, k e (by simp) _ he⟩, hi.at fun o q => k it (by simp) o q, hne⟩
  item := by
    intro X hP hw hK hc i pins s σ H E I hf st hg
    subst hP hw hK
    obtain ⟨⟨old, he⟩, hit, hne, hai, hae⟩ := st
    obtain ⟨xs, x, hq, hx⟩ := hg
    obtain ⟨its, rv, p, hz⟩ := I.list hq
    obtain ⟨u, hu, ru⟩ := rv.get hx
    have hel : e < s.heap.objs.size := Heap.lt_size he
    have hil : it < s.heap.objs.size := by obtain ⟨_, q, _⟩ := hit; exact Heap.lt_size q
    have hlt : i < its.toArray.size := by
      rw [List.size_toArray]
      exact (List.getElem?_eq_some_iff.mp hu).1
    refine wpAny_pyNext_enum_itemC (Draws.list (prog := X.prog) (w := X.w) (A := X.A.in1) (I.ok.hd hc) it a hai its.toArray) he ⟨hit, p.isList⟩ hlt hne (by simp [hne, Ne.symm hae]) fun y h' tk hy ho hst hT hsz hk => ?_
    have ey : y = u := by
      have q : its[i]? = some y := by simpa using hy
      rw [hu] at q
      exact (Option.some.inj q).symm
    subst ey
    refine ⟨_, rfl, wpAny_letOwnedTupleGo_enum (s := { s with heap := h', toks := tk + 1 }) ho fun h'' he' sb => ?_⟩
    have hT2 : h''.get? s.heap.objs.size = some { cls := .type "tuple", data := .seq #[.int (k + (i : Nat)) tk, y] } := (sb.2 _ (Nat.ne_of_gt hel)).trans hT
    have new : ObjOk X.prog X.w (upd H s.heap.objs.size (.tup [.int (k + (i : Nat)), x])) h'' s.heap.objs.size (.tup [.int (k + (i : Nat)), x]) :=
      ⟨by show 2 ≤ sizeLine; decide, [.int (k + (i : Nat)) tk, y], .cons ⟨_, rfl⟩ (.cons ru .nil), ⟨_, hT2, rfl, _, rfl⟩⟩
    have I1 : Inv X pins σ (upd H s.heap.objs.size (.tup [.int (k + (i : Nat)), x])) { s with heap := h'', toks := tk + 1 } :=
      I.turnedNew (ch := [e, it]) (fun b ob hb q => (sb.2 b (fun z => hb (by simp [z]))).trans (hk b ob (fun z => hb (by simp [z])) (fun z => hb (by simp [z])) q)) hf (Nat.le_refl _) new
    refine ⟨.ref s.heap.objs.size, _, I1, rfl, ⟨_, x, rfl, I.hok.fresh (Nat.le_refl _), rfl, fun ys hy => by rw [I.list_inj hy hq]; exact hx⟩, ⟨⟨y, ?_⟩, hst.1.at fun o q => (sb.2 it (Ne.symm hne)).trans q, hne, hai, hae⟩, fun b hb => ?_⟩
    · have e1 : k + ((i + 1 : Nat) : Int) = k + (i : Int) + 1 := by omega
      rw [e1]; exact he'
    · have hb' : b < s.heap.objs.size := by
        rcases (show b = e ∨ b = it by simpa using hb) with z | z
        · rw [z]; exact hel
        · rw [z]; exact hil
      rw [upd_ne (Nat.ne_of_lt hb')]
      exact (hf b hb).1
  done := by
    intro X hP hw hK hc i pins s σ H E I hf st hg
    subst hP hw hK
    obtain ⟨⟨old, he⟩, hit, hne, hai, hae⟩ := st
    obtain ⟨xs, hq, hx⟩ := hg
    obtain ⟨its, rv, p, hz⟩ := I.list hq
    obtain ⟨f0, f1, f2, f3, f4, f5⟩ := hf it (by simp)
    have hl := rv.length
    have D : Draws X.prog X.w X.A.in1 it [it, a] i (fun _ _ => False) (fun j h => j = i ∧ h.IsListIter it a i ∧ h.IsList a its.toArray) :=
      { live := fun _ _ st => let ⟨o, ho, _⟩ := st.2.1; ⟨o, ho⟩
        frame := fun _ _ _ st hk => ⟨st.1, st.2.1.at fun o e => hk it (by simp) o e, st.2.2.at fun o e => hk a (by simp) o e⟩
        item := fun j s Q E hj st => absurd hj (by rw [st.1]; exact Nat.lt_irrefl _)
        done := fun s Q E st hE => wpAny_nextOf_list_end (I.ok.hd hc) st.2.1 st.2.2 (by simp; omega) hE }
    exact wpAny_pyNext_enum_endD D he ⟨rfl, hit, p.isList⟩ fun h' eb => ⟨rfl, I.turned (t' := s.toks) (fun b o hb q => eb b o hb q) f0 f1 f3 f4 f5⟩
  self := fun A i s Q E st h => let ⟨⟨_, he⟩, _⟩ := st; wpAny_pyIter_enum he h
def iEnumK (K : PySem.W.Frag) (ta : TA) : TI := fun σ H R => ta σ H fun vs H1 => ∃ a xs k, vs = [.ref a, .int k] ∧ (-(2 ^ 63) ≤ k ∧ k < 2 ^ 63) ∧ SqL K H1 a xs ∧ R (IteK K k a) H1
theorem pi_enumK {X : Cx} {e e2 : Expr} {ta : TA} {p pos tpos : Pos} {elts : List Expr} {kk : Nat} (hg : Gl X "enumerate") (hm : X.mg "enumerate" = none) (ha : PA X [e, e2] ta)
    (hs : starEach [e, e2] X.env = (false, eval e X.env) :: starEach [e2] X.env := by rfl) (hpl : (backTo pos (starEach [e2] X.env)).any (·.1) = false := by rfl) :
    PI X (.Tuple elts kk tpos) (.Call (.Name "enumerate" p) [e, e2] [] pos) (iEnumK X.K ta) := by
  refine ⟨fun pins s σ H R I h => ?_⟩
  refine Call_ (ld_blt I hg hm boot_enumerate (PyProof.Rows.callWith_type1 (thn (ha.run pos pins s σ H _ I h) fun us s1 hz => ?_) hs hpl))
  obtain ⟨vs, H1, I1, r1, a, xs, k, ex, ⟨hk0, hk1⟩, hq, q⟩ := hz
  subst ex
  cases r1 with
  | cons r rr =>
    cases rr with
    | cons r' rr =>
      cases rr
      cases r
      obtain ⟨t, rfl⟩ := r'
      obtain ⟨its, rv, p', hz⟩ := I1.list hq
      refine enum_begins (begins_list a its.toArray) p'.isList hk0 hk1 fun h' he hit hsz hk => wpAny_pyIter_enum he ?_
      have hal : a < s1.heap.objs.size := p'.lt
      refine ⟨s1.heap.objs.size + 1, [s1.heap.objs.size + 1, s1.heap.objs.size], _, _, H1, rfl, I1.kept (t' := s1.toks) hk, turn_enumK k a (s1.heap.objs.size + 1) s1.heap.objs.size,
        ⟨⟨.none, by rw [show k + ((0 : Nat) : Int) = k by omega]; exact he⟩, ⟨_, hit, rfl, rfl⟩, Nat.succ_ne_self _, Nat.ne_of_lt hal, Nat.ne_of_lt (Nat.lt_succ_of_lt hal)⟩, fun b hb => ?_, q⟩
      have hle : s1.heap.objs.size ≤ b := by
        rcases (show b = s1.heap.objs.size + 1 ∨ b = s1.heap.objs.size by simpa using hb) with z | z
        · rw [z]; exact Nat.le_add_right _ _
        · rw [z]; exact Nat.le_refl _
      exact I1.fpOk hle (I1.hok.fresh hle)
theorem walk_enumK {K : PySem.W.Frag} {k : Int} {a : Addr} {xs : List V} : Walk (IteK K k a) xs.length (fun H => SqL K H a xs) (YPair (fun i => some (.int (k + (i : Nat)))) (fun i => xs[i]?)) := by
  refine ⟨fun i _ hi q => ⟨xs, xs[i], q, by simp [hi]⟩, fun _ q => ⟨xs, q, Nat.le_refl _⟩, fun i H v H' _ q y => ?_⟩
  obtain ⟨T, x, h1, h2, h3, h4⟩ := y
  exact ⟨T, .int (k + (i : Nat)), x, h1, h2, h3, rfl, h4 xs q⟩
end Cm

namespace K32
open PySem L2 Cm
/-- the fields of a BadListing -/
abbrev BadLd (n : Nat) : HO := .xd [(("line" : Str), .int (n : Nat))]
def spRead (K : PySem.W.Frag) (C CE : Addr) : Sp := fun vs H Q E => ∃ x : Str, vs = [.str x] ∧ x.length ≤ 60000 ∧
  (badL (splS 10 x) = 0 → ∀ (o : Addr) (c : Lst) (H' : Hp), Same H H' → Ob K H' C namesJ o c.enc → c.ok → c.txt = x → RddE (splS 10 x).dropLast [c.starts, c.returns] c.rows → Q (.ref o) H') ∧
  (badL (splS 10 x) ≠ 0 → ∀ (d : Addr) (H' : Hp), Same H H' → H' d = some (BadLd (badL (splS 10 x))) → E (.ref CE) (some d) H')
theorem cut_last {xs : List V} : cutV xs Option.none (some (-1 : Int)) = xs.dropLast := by
  unfold cutV
  have e : HT.sIx xs.length xs.length (some (-1 : Int)) = xs.length - 1 := by
    show (if (-1 : Int) < 0 then ((-1 : Int) + (xs.length : Int)).toNat else min (-1 : Int).toNat xs.length) = xs.length - 1
    rw [if_pos (by decide)]
    omega
  rw [e, HT.sIx_none, List.drop_zero, Nat.sub_zero, List.dropLast_eq_take]
theorem dropLast_map {α β : Type} (f : α → β) (l : List α) : (l.map f).dropLast = l.dropLast.map f := by
  rw [List.dropLast_eq_take, List.dropLast_eq_take, List.map_take, List.length_map]
theorem numsD_not {K : PySem.W.Frag} {H : Hp} {v : V} {ks : List Nat} (h : Dp K H v (numsD ks)) : decide (v = V.non) = false := by
  obtain ⟨t, rfl, _⟩ := numsD_inv h
  exact decide_eq_false fun z => by cases z
theorem rw_not {K : PySem.W.Frag} {H : Hp} {v : V} {r : Rw} (h : Dp K H v r.enc) : decide (v = V.non) = false := by
  refine decide_eq_false fun z => ?_
  subst z
  cases (show Dp K H .non (.tuple (.str r.w :: r.its.map It5.enc)) from h)
section
variable {P : Program} {w : World} {K : PySem.W.Frag} {mg : Str → Option Value} {base : Heap} {C CE : Addr}
abbrev s_p_read_jumps : Stmt := top 41
abbrev N_p_read_jumps : List Str := ["text", "lines", "rows", "heads", "number", "line", "words", "items"]
theorem sc_p_read_jumps : FnScope N_p_read_jumps ["text"] (defScope s_p_read_jumps) := ⟨rfl, rfl, rfl, by decide +kernel, rfl, by decide +kernel, by decide +kernel⟩
theorem ok_read_jumps (T : Txt mg) (M : Mk P w K mg base CE "BadListing" ["line"]) (MJ : MkC P w K mg base 1 "JumpCode" C (spIni C namesJ)) (c_p_numbers_of : Cl P w K mg base 2 "_numbers_of" (spNumsOf K)) (c_p_row_of : Cl P w K mg base 4 "row_of_jumptext" (spRowOf K))
    (D : At K mg "read_jumps" s_p_read_jumps ["text"]) : ClX P w K mg base 5 "read_jumps" (spRead K C CE) := by
  refine clX_of (k := 4) D sc_p_read_jumps (fun vs H Q E h => ?_) fun f cdv A outer s H vs Q E hr h => ?_
  · obtain ⟨x, rfl, _⟩ := h
    rfl
  · obtain ⟨x, rfl, hx, kQ, kE⟩ := h
    refine ⟨_, (pss_cons (ps_set (i := 1) sc_p_read_jumps.nd rfl (Or.inl rfl) (pe_split (pv 0) pe_str))
      (pss_cons (ps_set (i := 2) sc_p_read_jumps.nd rfl (Or.inl rfl) (pe_lst pa_nil))
      (pss_mid (ps_set (i := 3) sc_p_read_jumps.nd rfl (Or.inl rfl) (pe_lst pa_nil))
      (pss_cons (ps_for (passes_of rfl) rfl (pi_enumK (by rfl) T.enumerate (pa_cons (pe_slice sl_list (pv 1) po_none (po_some (pe_un un_neg pe_int))) (pa_cons pe_int pa_nil))) (pg_tup (by rfl) (pgs_cons (pg_name (i := 4) sc_p_read_jumps.nd rfl (Or.inl rfl)) (pgs_cons (pg_name (i := 5) sc_p_read_jumps.nd rfl (Or.inl rfl)) pgs_nil)))
        (pss_cons (ps_set (i := 6) sc_p_read_jumps.nd rfl (Or.inl rfl) (pe_split (pv 5) pe_str))
        (pss_mid (ps_if (pt_cmpR op_le (pv 4) pe_int (nomark _))
          (pss_cons (ps_set (i := 7) sc_p_read_jumps.nd rfl (Or.inl rfl) (pe_ifExp (pt_cmpR op_eq (pe_ix ix_list (pv 6) pe_int (fun _ _ => rfl)) (pe_ix ix_tup (pe_tup (pa_cons pe_str (pa_cons pe_str pa_nil))) (pe_op op_sub (pv 4) pe_int) (fun _ _ => rfl)) (nomark _)) (pe_c c_p_numbers_of hr (by decide) (by rfl) (pa_cons (pe_slice sl_list (pv 6) (po_some pe_int) po_none) pa_nil)) pe_non))
          (pss_one (ps_expr (pe_bm PySem.F.plainAttrs_list PySem.F.slot_list_append PySem.F.type_list_append mt_append (pv 3) (pa_cons (pv 7) pa_nil)))))
          (pss_cons (ps_set (i := 7) sc_p_read_jumps.nd rfl (Or.inl rfl) (pe_c c_p_row_of hr (by decide) (by rfl) (pa_cons (pv 6) pa_nil)))
          (pss_one (ps_expr (pe_bm PySem.F.plainAttrs_list PySem.F.slot_list_append PySem.F.type_list_append mt_append (pv 2) (pa_cons (pv 7) pa_nil))))))
        (pss_one (ps_if (pt_cmpR op_isN (pv 7) pe_non (nomark _))
          (pss_one (ps_raiseMk rfl M hr (by decide) (by decide) (takes_of rfl rfl rfl rfl) (by rfl) (by exact (pa_cons (pv 4) pa_nil))))
          pss_nil)))))
      (pss_cons (ps_if (PW.pt (pw_or (pt_cmpR op_ne (pe_ix ix_list (pv 1) (pe_un un_neg pe_int) (fun _ _ => rfl)) pe_str (nomark _)) (pw_or1 (pt_cmpR op_lt (pe_callB call_len_seq (by rfl) T.len (by decide +kernel) (pa_cons (pv 1) pa_nil)) pe_int (nomark _)))))
        (pss_one (ps_raiseMk rfl M hr (by decide) (by decide) (takes_of rfl rfl rfl rfl) (by rfl) (by exact (pa_cons (pe_callB call_len_seq (by rfl) T.len (by decide +kernel) (pa_cons (pv 1) pa_nil)) pa_nil))))
        pss_nil)
      (pss_one (ps_ret (pe_mkC MJ hr (by decide) (by rfl) (pa_cons (pe_tupleOf (by rfl) T.tuple (pv 2)) (pa_cons (pe_ix ix_list (pv 3) pe_int (fun _ _ => rfl)) (pa_cons (pe_ix ix_list (pv 3) pe_int (fun _ _ => rfl)) pa_nil))))))))))), ?_⟩
    have hz : x.length + 2 ≤ sizeLine := Nat.le_trans (show x.length + 2 ≤ 60002 by omega) (by decide)
    refine ⟨_, rfl, ⟨_, rfl⟩, _, _, rfl, rfl, by decide +kernel, hz, fun L hL => ?_⟩
    rw [split_eq sp10 (by decide)]
    have s1 := same_new (o := .lst ((splS 10 x).map V.str)) hL
    refine ⟨by show 0 ≤ sizeLine; decide, fun R hR => ?_⟩
    have s2 := same_new (o := .lst []) hR
    refine ⟨fun σ' H' => ∃ J : Addr, σ' = [some (.str x), some (.ref L), some (.ref R), some (.ref J), none, none, none, none] ∧ H L = none ∧ H R = none ∧ H J = none ∧ R ≠ J ∧ L ≠ R ∧ L ≠ J ∧ Same H H' ∧ H' L = some (.lst ((splS 10 x).map V.str)) ∧ H' R = some (.lst []) ∧ H' J = some (.lst []), ?_, ?_⟩
    · refine ⟨by show 0 ≤ sizeLine; decide, fun J hJ => ?_⟩
      have s3 := same_new (o := .lst []) hJ
      refine ⟨J, rfl, hL, free_of s1 hR, free_of (s1.trans s2) hJ, fun z => ?_, fun z => ?_, fun z => ?_, (s1.trans s2).trans s3, s3 _ _ (s2 _ _ upd_same), s3 _ _ upd_same, upd_same⟩
      · rw [← z, upd_same] at hJ
        cases hJ
      · rw [← z, upd_same] at hR
        cases hR
      · rw [← z, s2 _ _ upd_same] at hJ
        cases hJ
    rintro σ' H1 ⟨J, rfl, nL, nR, nJ, neRJ, neLR, neLJ, sH1, hL1, hR1, hJ1⟩
    obtain ⟨xs, last, els⟩ : ∃ xs last, splS 10 x = xs ++ [last] := ⟨_, _, (List.dropLast_concat_getLast (splS_ne 10 x)).symm⟩
    have edl : (splS 10 x).dropLast = xs := by rw [els]; exact List.dropLast_concat
    have hnx : xs.length ≤ 60000 := by
      have := splS_len 10 x
      rw [els, List.length_append, List.length_singleton] at this
      omega
    have ebad : badL (splS 10 x) = if firstBad 0 xs ≠ 0 then firstBad 0 xs else if last ≠ "" ∨ xs.length + 1 < 3 then xs.length + 1 else 0 := by
      unfold badL
      rw [edl, els, List.length_append, List.length_singleton, List.getLast?_concat]
      by_cases q0 : firstBad 0 xs ≠ 0
      · rw [if_pos q0, if_pos q0]
      · rw [if_neg q0, if_neg q0]
        by_cases q1 : last ≠ "" ∨ xs.length + 1 < 3
        · rw [if_pos q1, if_pos (q1.imp (fun h z => h (Option.some.inj z)) id)]
        · rw [if_neg q1, if_neg fun z => q1 (z.imp (fun h e => h (congrArg some e)) id)]
    refine ⟨_, rfl, _, rfl, _, rfl, L, _, rfl, .inl (.inl hL1), fun B hB => ?_⟩
    rw [cut_last, dropLast_map, edl]
    have sB := same_new (o := .lst (xs.map V.str)) hB
    refine ⟨B, _, 1, rfl, ⟨by decide, by decide⟩, .inl (.inl upd_same), ?_⟩
    refine for_it (walk_enumK (K := K) (k := 1) (a := B) (xs := xs.map V.str)) (fun i σ H' => ∃ (hs : List (List Nat)) (rs : List Rw) (hv rv : List V) (v4 v5 v6 v7 : Option V), σ = [some (.str x), some (.ref L), some (.ref R), some (.ref J), v4, v5, v6, v7] ∧ Same H H' ∧ H' L = some (.lst ((splS 10 x).map V.str)) ∧ H' B = some (.lst (xs.map V.str)) ∧ B ≠ R ∧ B ≠ J ∧
      H' R = some (.lst rv) ∧ H' J = some (.lst hv) ∧ DpAll K H' hv (hs.map numsD) ∧ DpAll K H' rv (rs.map Rw.enc) ∧ RddE (xs.take i) hs rs ∧ firstBad 0 xs = firstBad i (xs.drop i) ∧ hv.length ≤ i ∧ rv.length ≤ i) ?_ (fun i σ H' _ z => ?_) ?_ ?_
    · refine ⟨[], [], [], [], none, none, none, none, rfl, sH1.trans sB, sB _ _ hL1, upd_same, fun z => ?_, fun z => ?_, sB _ _ hR1, sB _ _ hJ1, .nil, .nil, .nil, rfl, Nat.le_refl _, Nat.le_refl _⟩
      · rw [z, hR1] at hB
        cases hB
      · rw [z, hJ1] at hB
        cases hB
    · obtain ⟨_, _, _, _, _, _, _, _, _, _, _, z, _⟩ := z
      exact .inl (.inl z)
    · rintro i v σ H2 H3 hi ⟨hs, rs, hv, rv, v4, v5, v6, v7, rfl, sH2, hL2, hB2, nBR, nBJ, hR2, hJ2, dh, dr, rd, eb, lh, lr⟩ ⟨T1, x1, x2, rfl, hT, rfl, e1, e2⟩
      cases e1
      obtain ⟨z, ez, rfl⟩ := map_at e2
      rw [List.length_map] at hi
      have sT := same_new (o := .tup [.int (1 + (i : Nat)), .str z]) hT
      have edr : xs.drop i = z :: xs.drop (i + 1) := by
        obtain ⟨hi', e⟩ := List.getElem?_eq_some_iff.mp ez
        rw [List.drop_eq_getElem_cons hi', e]
      have etk : xs.take (i + 1) = xs.take i ++ [z] := (takeNext ez).1
      rw [edr] at eb
      have eb' : firstBad 0 xs = if goodAt i z = true then firstBad (i + 1) (xs.drop (i + 1)) else i + 1 := eb
      have zl : z.length ≤ x.length := splS_each (c := 10) (by rw [els]; exact List.mem_append.mpr (.inl (List.mem_of_getElem? ez)))
      refine ⟨T1, _, rfl, .inl (.inl upd_same), rfl, _, _, rfl, _, _, rfl, rfl, ?_⟩
      have sH3 := sH2.trans sT
      have hL3 := sT _ _ hL2
      have hB3 := sT _ _ hB2
      have hR3 := sT _ _ hR2
      have hJ3 := sT _ _ hJ2
      have dh3 := dps_same sT _ _ dh
      have dr3 := dps_same sT _ _ dr
      generalize upd H2 T1 (.tup [.int (1 + (i : Nat)), .str z]) = H3 at *
      refine ⟨_, rfl, ⟨_, rfl⟩, _, _, rfl, rfl, by decide +kernel, by omega, fun W hW => ?_⟩
      rw [split_eq sp32 (by decide), cut_words]
      have sW := same_new (o := .lst ((wordOf z :: restOf z).map V.str)) hW
      have hWs : upd H3 W (.lst ((wordOf z :: restOf z).map V.str)) W = some (.lst ((wordOf z :: restOf z).map V.str)) := upd_same
      have hwd : Wds (wordOf z :: restOf z) := by
        rw [← cut_words]
        refine ⟨by have := splS_len 32 z; omega, fun y m => ?_⟩
        have := splS_each m
        exact Nat.le_trans (show y.length ≤ 60000 by omega) (by decide)
      have sH4 := sH3.trans sW
      have hL4 := sW _ _ hL3
      have hB4 := sW _ _ hB3
      have hR4 := sW _ _ hR3
      have hJ4 := sW _ _ hJ3
      have dh4 := dps_same sW _ _ dh3
      have dr4 := dps_same sW _ _ dr3
      generalize upd H3 W (.lst ((wordOf z :: restOf z).map V.str)) = H4 at *
      refine ⟨fun σ' H' => ∃ (w7 : V) (hs2 : List (List Nat)) (rs2 : List Rw) (hv2 rv2 : List V), σ' = [some (.str x), some (.ref L), some (.ref R), some (.ref J), some (.int (1 + (i : Nat))), some (.str z), some (.ref W), some w7] ∧ Same H H' ∧ H' L = some (.lst ((splS 10 x).map V.str)) ∧ H' B = some (.lst (xs.map V.str)) ∧
        H' R = some (.lst rv2) ∧ H' J = some (.lst hv2) ∧ hv2.length ≤ i + 1 ∧ rv2.length ≤ i + 1 ∧ ((goodAt i z = false ∧ w7 = .non) ∨ (goodAt i z = true ∧ decide (w7 = V.non) = false ∧ DpAll K H' hv2 (hs2.map numsD) ∧ DpAll K H' rv2 (rs2.map Rw.enc) ∧ RddE (xs.take (i + 1)) hs2 rs2)), ?_, ?_⟩
      · have hlw : Wds (restOf z) := hwd.drop 1
        have cut1 : cutV ((wordOf z :: restOf z).map V.str) (some (1 : Int)) Option.none = (restOf z).map V.str := by
          rw [show (1 : Int) = ((1 : Nat) : Int) from rfl, cut_from (by rw [List.length_map, List.length_cons]; omega)]
          rfl
        have head : ∀ (hw : Str) (nx : L2.St → Hp → Prop), hw = hw → True := fun _ _ _ => trivial
        -- what a heading leaves
        have putJ : ∀ (w7 : V) (H5 : Hp) (hs2 : List (List Nat)), Same H4 H5 → ((goodAt i z = false ∧ w7 = .non) ∨ (goodAt i z = true ∧ ∃ a, Dp K H5 w7 (numsD a) ∧ RddE (xs.take (i + 1)) (hs ++ [a]) rs)) →
            ∃ (w7' : V) (hs2 : List (List Nat)) (rs2 : List Rw) (hv2 rv2 : List V), [some (.str x), some (.ref L), some (.ref R), some (.ref J), some (.int (1 + (i : Nat))), some (.str z), some (.ref W), some w7] = [some (.str x), some (.ref L), some (.ref R), some (.ref J), some (.int (1 + (i : Nat))), some (.str z), some (.ref W), some w7'] ∧
              Same H (upd H5 J (.lst (hv ++ [w7]))) ∧ upd H5 J (.lst (hv ++ [w7])) L = some (.lst ((splS 10 x).map V.str)) ∧ upd H5 J (.lst (hv ++ [w7])) B = some (.lst (xs.map V.str)) ∧
              upd H5 J (.lst (hv ++ [w7])) R = some (.lst rv2) ∧ upd H5 J (.lst (hv ++ [w7])) J = some (.lst hv2) ∧ hv2.length ≤ i + 1 ∧ rv2.length ≤ i + 1 ∧ ((goodAt i z = false ∧ w7' = .non) ∨ (goodAt i z = true ∧ decide (w7' = V.non) = false ∧ DpAll K (upd H5 J (.lst (hv ++ [w7]))) hv2 (hs2.map numsD) ∧ DpAll K (upd H5 J (.lst (hv ++ [w7]))) rv2 (rs2.map Rw.enc) ∧ RddE (xs.take (i + 1)) hs2 rs2)) := by
          intro w7 H5 _ s5 hor
          have hJ5 := s5 _ _ hJ4
          have q1 : (hv ++ [w7]).length ≤ i + 1 := by rw [List.length_append, List.length_singleton]; omega
          have fh : ∀ l : List (List Nat), flatDs (l.map numsD) = true := fun l => flatDs_of _ fun d m => by
            obtain ⟨p, _, rfl⟩ := List.mem_map.mp m
            exact flat_numsD p
          have fr : ∀ l : List Rw, flatDs (l.map Rw.enc) = true := fun l => flatDs_of _ fun d m => by
            obtain ⟨p, _, rfl⟩ := List.mem_map.mp m
            exact flat_rw p
          rcases hor with ⟨g, e⟩ | ⟨g, a, ha, hr⟩
          · exact ⟨w7, [], [], hv ++ [w7], rv, rfl, same_put (sH4.trans s5) nJ, by rw [upd_ne neLJ]; exact s5 _ _ hL4, by rw [upd_ne nBJ]; exact s5 _ _ hB4, by rw [upd_ne neRJ]; exact s5 _ _ hR4, upd_same, q1, by omega, .inl ⟨g, e⟩⟩
          · refine ⟨w7, hs ++ [a], rs, hv ++ [w7], rv, rfl, same_put (sH4.trans s5) nJ, by rw [upd_ne neLJ]; exact s5 _ _ hL4, by rw [upd_ne nBJ]; exact s5 _ _ hB4, by rw [upd_ne neRJ]; exact s5 _ _ hR4, upd_same, q1, by omega, .inr ⟨g, numsD_not ha, ?_, ?_, hr⟩⟩
            · rw [List.map_append]
              exact DpAll.snoc (dp_keep (fun _ _ q => sqt_put hJ5 q) _ _ (flat_numsD a) ha) (dps_keep (fun _ _ q => sqt_put hJ5 q) _ _ (fh hs) (dps_same s5 _ _ dh4))
            · exact dps_keep (fun _ _ q => sqt_put hJ5 q) _ _ (fr rs) (dps_same s5 _ _ dr4)
        have hvs : hv.length < sizeLine := Nat.lt_of_le_of_lt (show hv.length ≤ 60000 by omega) (by decide)
        have at0 : atI ((wordOf z :: restOf z).map V.str) 0 = some (.str (wordOf z)) := atI_nat (j := 0) rfl
        refine ⟨_, rfl, _, _, rfl, rfl, _, rfl, ?_⟩
        match i, hi, rd, eb', etk, lh, lr, putJ with
        | 0, hi, rd, eb', etk, lh, lr, putJ =>
          refine iteT ⟨_, rfl, W, _, _, _, rfl, rfl, .inl (.inl hWs), at0, by show 2 ≤ sizeLine; decide, fun p hp => ?_⟩
          have s5 := same_new (o := .tup [.str "starts", .str "returns"]) hp
          refine ⟨_, rfl, _, _, rfl, rfl, p, _, _, _, rfl, rfl, .inl (.inl upd_same), rfl, rfl, _, rfl, ?_⟩
          rw [decS]
          have eg : goodAt 0 z = (headOf "starts" z).isSome := rfl
          by_cases hw : wordOf z = "starts"
          · rw [decide_eq_true hw]
            have eh : headOf "starts" z = numsW (restOf z) := if_pos hw
            refine iteT ⟨_, rfl, _, rfl, W, _, rfl, .inl (.inl (s5 _ _ hWs)), fun W2 hW2 => ?_⟩
            rw [cut1]
            have s6 := s5.trans (same_new (o := .lst ((restOf z).map V.str)) hW2)
            refine ⟨W2, restOf z, rfl, .inl (.inl upd_same), hlw, ?_⟩
            cases en : numsW (restOf z) with
            | none =>
              intro H7 s7
              have sx := s6.trans s7
              exact ⟨_, rfl, .inl ⟨rfl, _, .inl (.inl (sx _ _ hJ4))⟩, _, rfl, J, _, _, rfl, rfl, sx _ _ hJ4, hvs, putJ .non H7 [] sx (.inl ⟨by rw [eg, eh, en]; rfl, rfl⟩)⟩
            | some a =>
              intro v7 H7 s7 hd7
              have sx := s6.trans s7
              refine ⟨_, rfl, .inl ⟨rfl, _, .inl (.inl (sx _ _ hJ4))⟩, _, rfl, J, _, _, rfl, rfl, sx _ _ hJ4, hvs, putJ v7 H7 [] sx (.inr ⟨by rw [eg, eh, en]; rfl, a, hd7, ?_⟩)⟩
              rw [etk, List.take_zero, List.nil_append]
              rw [List.take_zero] at rd
              exact rd.s0 (by rw [eh, en])
          · rw [decide_eq_false hw]
            have eh : headOf "starts" z = none := if_neg hw
            exact iteF ⟨_, rfl, .inl ⟨rfl, _, .inl (.inl (s5 _ _ hJ4))⟩, _, rfl, J, _, _, rfl, rfl, s5 _ _ hJ4, hvs, putJ .non _ [] s5 (.inl ⟨by rw [eg, eh]; rfl, rfl⟩)⟩
        | 1, hi, rd, eb', etk, lh, lr, putJ =>
          refine iteT ⟨_, rfl, W, _, _, _, rfl, rfl, .inl (.inl hWs), at0, by show 2 ≤ sizeLine; decide, fun p hp => ?_⟩
          have s5 := same_new (o := .tup [.str "starts", .str "returns"]) hp
          refine ⟨_, rfl, _, _, rfl, rfl, p, _, _, _, rfl, rfl, .inl (.inl upd_same), rfl, rfl, _, rfl, ?_⟩
          rw [decS]
          have eg : goodAt 1 z = (headOf "returns" z).isSome := rfl
          by_cases hw : wordOf z = "returns"
          · rw [decide_eq_true hw]
            have eh : headOf "returns" z = numsW (restOf z) := if_pos hw
            refine iteT ⟨_, rfl, _, rfl, W, _, rfl, .inl (.inl (s5 _ _ hWs)), fun W2 hW2 => ?_⟩
            rw [cut1]
            have s6 := s5.trans (same_new (o := .lst ((restOf z).map V.str)) hW2)
            refine ⟨W2, restOf z, rfl, .inl (.inl upd_same), hlw, ?_⟩
            cases en : numsW (restOf z) with
            | none =>
              intro H7 s7
              have sx := s6.trans s7
              exact ⟨_, rfl, .inl ⟨rfl, _, .inl (.inl (sx _ _ hJ4))⟩, _, rfl, J, _, _, rfl, rfl, sx _ _ hJ4, hvs, putJ .non H7 [] sx (.inl ⟨by rw [eg, eh, en]; rfl, rfl⟩)⟩
            | some a =>
              intro v7 H7 s7 hd7
              have sx := s6.trans s7
              refine ⟨_, rfl, .inl ⟨rfl, _, .inl (.inl (sx _ _ hJ4))⟩, _, rfl, J, _, _, rfl, rfl, sx _ _ hJ4, hvs, putJ v7 H7 [] sx (.inr ⟨by rw [eg, eh, en]; rfl, a, hd7, ?_⟩)⟩
              obtain ⟨y, ey⟩ : ∃ y, xs.take 1 = [y] := by
                cases xs with
                | nil => cases hi
                | cons y r => exact ⟨y, rfl⟩
              rw [etk, ey]
              rw [ey] at rd
              exact rd.s1 (by rw [eh, en])
          · rw [decide_eq_false hw]
            have eh : headOf "returns" z = none := if_neg hw
            exact iteF ⟨_, rfl, .inl ⟨rfl, _, .inl (.inl (s5 _ _ hJ4))⟩, _, rfl, J, _, _, rfl, rfl, s5 _ _ hJ4, hvs, putJ .non _ [] s5 (.inl ⟨by rw [eg, eh]; rfl, rfl⟩)⟩
        | i + 2, hi, rd, eb', etk, lh, lr, putJ =>
          rw [decide_eq_false (show ¬ (1 + ((i + 2 : Nat) : Int) ≤ 2) by omega)]
          have fh : ∀ l : List (List Nat), flatDs (l.map numsD) = true := fun l => flatDs_of _ fun d m => by
            obtain ⟨p, _, rfl⟩ := List.mem_map.mp m
            exact flat_numsD p
          have fr : ∀ l : List Rw, flatDs (l.map Rw.enc) = true := fun l => flatDs_of _ fun d m => by
            obtain ⟨p, _, rfl⟩ := List.mem_map.mp m
            exact flat_rw p
          have rvs : rv.length < sizeLine := Nat.lt_of_le_of_lt (show rv.length ≤ 60000 by omega) (by decide)
          have eg : goodAt (i + 2) z = (lineOf z).isSome := rfl
          refine iteF ⟨_, rfl, W, wordOf z, restOf z, rfl, .inl (.inl hWs), hwd, ?_⟩
          have el : lineOf z = rowOf (wordOf z) (restOf z) := rfl
          rw [← el]
          cases en : lineOf z with
          | none =>
            intro H7 sx
            refine ⟨_, rfl, .inl ⟨rfl, _, .inl (.inl (sx _ _ hR4))⟩, _, rfl, R, _, _, rfl, rfl, sx _ _ hR4, rvs, .non, [], [], hv, rv ++ [.non], rfl, same_put (sH4.trans sx) nR, by rw [upd_ne neLR]; exact sx _ _ hL4, by rw [upd_ne nBR]; exact sx _ _ hB4, upd_same, by rw [upd_ne neRJ.symm]; exact sx _ _ hJ4, by omega, by rw [List.length_append, List.length_singleton]; omega, .inl ⟨by rw [eg, en]; rfl, rfl⟩⟩
          | some r =>
            intro v7 H7 sx hd7
            have hR7 := sx _ _ hR4
            refine ⟨_, rfl, .inl ⟨rfl, _, .inl (.inl hR7)⟩, _, rfl, R, _, _, rfl, rfl, hR7, rvs, v7, hs, rs ++ [r], hv, rv ++ [v7], rfl, same_put (sH4.trans sx) nR, by rw [upd_ne neLR]; exact sx _ _ hL4, by rw [upd_ne nBR]; exact sx _ _ hB4, upd_same, by rw [upd_ne neRJ.symm]; exact sx _ _ hJ4, by omega, by rw [List.length_append, List.length_singleton]; omega, .inr ⟨by rw [eg, en]; rfl, rw_not hd7, ?_, ?_, ?_⟩⟩
            · exact dps_keep (fun _ _ q => sqt_put hR7 q) _ _ (fh hs) (dps_same sx _ _ dh4)
            · rw [List.map_append]
              exact DpAll.snoc (dp_keep (fun _ _ q => sqt_put hR7 q) _ _ (flat_rw r) hd7) (dps_keep (fun _ _ q => sqt_put hR7 q) _ _ (fr rs) (dps_same sx _ _ dr4))
            · rw [etk]
              refine rd.s2 ?_ en
              rw [List.length_take]
              omega
      · rintro σ' H5 ⟨w7, hs2, rs2, hv2, rv2, rfl, sH5, hL5, hB5, hR5, hJ5, lh2, lr2, hor⟩
        refine ⟨_, rfl, rfl, _, rfl, ?_⟩
        rcases hor with ⟨g, rfl⟩ | ⟨g, nn, dh5, dr5, rd5⟩
        · rw [decide_eq_true rfl]
          rw [g, if_neg Bool.false_ne_true] at eb'
          have ebn : badL (splS 10 x) = i + 1 := by
            rw [ebad, if_pos (by rw [eb']; omega), eb']
          refine iteT ⟨_, rfl, rfl, fun d H6 s6 hd6 => kE (by rw [ebn]; omega) d H6 (sH5.trans s6) ?_⟩
          rw [ebn]
          have e1 : ((i + 1 : Nat) : Int) = 1 + (i : Int) := by omega
          show H6 d = some (.xd [(("line" : Str), .int ((i + 1 : Nat) : Int))])
          rw [e1]
          exact hd6
        · rw [nn]
          rw [g, if_pos rfl] at eb'
          exact iteF ⟨hs2, rs2, hv2, rv2, _, _, _, _, rfl, sH5, hL5, hB5, nBR, nBJ, hR5, hJ5, dh5, dr5, rd5, eb', lh2, lr2⟩
    · rintro σ H2 ⟨hs, rs, hv, rv, v4, v5, v6, v7, rfl, sH2, hL2, hB2, nBR, nBJ, hR2, hJ2, dh, dr, rd, eb, lh, lr⟩
      rw [List.length_map, List.take_of_length_le (Nat.le_refl _)] at rd
      rw [List.length_map, List.drop_of_length_le (Nat.le_refl _)] at eb
      have eb0 : firstBad 0 xs = 0 := eb
      rw [if_neg (by rw [eb0]; exact fun z => z rfl)] at ebad
      have atl : atI ((splS 10 x).map V.str) (-1) = some (.str last) := by
        rw [els, List.map_append]
        exact atI_last _ _
      refine ⟨_, rfl, _, rfl, L, _, _, _, rfl, rfl, .inl (.inl hL2), atl, rfl, _, rfl, ?_⟩
      rw [decS]
      have ebl : (last ≠ "" ∨ xs.length + 1 < 3) → ∀ (d : Addr) (H6 : Hp), Same H2 H6 → H6 d = some (BadLd (xs.length + 1)) → E (.ref CE) (some d) H6 := fun q d H6 s6 hd => by
        rw [if_pos q] at ebad
        refine kE (by rw [ebad]; omega) d H6 (sH2.trans s6) ?_
        rw [ebad]
        exact hd
      have hll : ((splS 10 x).map V.str).length = xs.length + 1 := by rw [List.length_map, els, List.length_append]; rfl
      by_cases ql : last = ""
      · rw [decide_eq_true ql]
        refine iteF ⟨_, rfl, L, _, rfl, .inl (.inl (.inl hL2)), _, _, rfl, rfl, _, rfl, ?_⟩
        show if decide ((((splS 10 x).map V.str).length : Int) < 3) = true then _ else _
        rw [hll]
        by_cases q3 : xs.length + 1 < 3
        · rw [decide_eq_true (show ((xs.length + 1 : Nat) : Int) < 3 by omega)]
          refine iteT ⟨_, rfl, L, _, rfl, .inl (.inl (.inl hL2)), rfl, fun d H6 s6 hd6 => ebl (.inr q3) d H6 s6 ?_⟩
          rw [hll] at hd6
          exact hd6
        · rw [decide_eq_false (show ¬ ((xs.length + 1 : Nat) : Int) < 3 by omega)]
          have eb1 : badL (splS 10 x) = 0 := by rw [ebad, if_neg fun z => z.elim (fun h => h ql) q3]
          obtain ⟨a, b, rfl⟩ : ∃ a b, hs = [a, b] := by
            have e := rd.h
            match xs, q3 with
            | y :: z :: l, _ =>
              have e' := congrArg List.length e
              rw [List.length_map] at e'
              match hs, e' with
              | [a, b], _ => exact ⟨a, b, rfl⟩
            | [y], q3 => exact absurd (show 1 + 1 < 3 by decide) q3
            | [], q3 => exact absurd (show 0 + 1 < 3 by decide) q3
          subst ql
          obtain ⟨cok, ctx⟩ := rd.code els hx
          obtain ⟨va, vb, rfl, hva, hvb⟩ : ∃ va vb, hv = [va, vb] ∧ Dp K H2 va (numsD a) ∧ Dp K H2 vb (numsD b) := by
            cases dh with
            | cons d1 d2 =>
              cases d2 with
              | cons d3 d4 =>
                cases d4
                exact ⟨_, _, rfl, d1, d3⟩
          refine iteF ⟨_, rfl, .inl ⟨R, rv, rfl, .inl (.inl hR2), fun p hp => ?_⟩⟩
          have sp := same_new (o := .tup rv) hp
          refine ⟨_, rfl, J, _, _, _, rfl, rfl, .inl (.inl (sp _ _ hJ2)), atI_nat (j := 0) rfl, _, rfl, J, _, _, _, rfl, rfl, .inl (.inl (sp _ _ hJ2)), atI_nat (j := 1) rfl, ?_⟩
          intro O dxO nO ndxO neO
          obtain ⟨G1, t1, ob1, fin1⟩ := made_ob2 (K := K) (C := C) (names := namesJ) (ds := (Lst.mk rs a b).enc) (vs := [.ref p, va, vb]) (.cons (.tup (.inl (.inl upd_same)) (dps_same sp _ _ dr)) (.cons (dp_same sp _ _ hva) (.cons (dp_same sp _ _ hvb) .nil))) rfl nO ndxO neO
          exact fin1 _ ⟨rfl, kQ eb1 O _ _ ((sH2.trans sp).trans t1) ob1 cok ctx (by rw [edl]; exact rd)⟩
      · rw [decide_eq_false ql]
        refine iteT ⟨_, rfl, L, _, rfl, .inl (.inl (.inl hL2)), rfl, fun d H6 s6 hd6 => ebl (.inl ql) d H6 s6 ?_⟩
        rw [hll] at hd6
        exact hd6
end
end K32

namespace K32
open PySem L2 Cm
theorem range_filtG {α β : Type} (p : α → Bool) (f : α → β) (l : List α) : (List.range l.length).filterMap (fun i => (l[i]?).bind fun x => if p x = true then some (f x) else none) = (l.filter p).map f := by
  induction l with
  | nil => rfl
  | cons a l ih =>
    rw [List.length_cons, List.range_succ_eq_map, List.filterMap_cons]
    simp only [List.getElem?_cons_zero, Option.bind_some, List.filterMap_map]
    have e : List.filterMap ((fun i => ((a :: l)[i]?).bind fun x => if p x = true then some (f x) else none) ∘ Nat.succ) (List.range l.length) = (l.filter p).map f := by
      rw [← ih]
      rfl
    rw [e]
    by_cases q : p a = true
    · rw [if_pos q, List.filter_cons_of_pos q]
      rfl
    · rw [if_neg q, List.filter_cons_of_neg q]
/-- words of the law's own reading -/
def WdL (ws : List Str) : Prop := ws.length ≤ 90000 ∧ ∀ w ∈ ws, w.length ≤ 60000 ∧ sok w
def spLNum : Sp := fun vs H Q _ => ∃ (s : Str) (k : Nat), vs = [.str s, .int (k : Nat)] ∧ s.length ≤ 60000 ∧ 1 ≤ k ∧ ∀ H', Same H H' → Q (.bl (canon k (cs s))) H'
def spLNums (K : PySem.W.Frag) : Sp := fun vs H Q _ => ∃ (a : Addr) (ws : List Str), vs = [.ref a] ∧ SqL K H a (ws.map V.str) ∧ WdL ws ∧ ∀ H', Same H H' → Q (.bl (numsW ws).isSome) H'
theorem filt_all {l : List Nat} (h : (l.filter dig).length = l.length) : ∀ c ∈ l, dig c = true := by
  have := List.filter_sublist.eq_of_length h (l₁ := l.filter dig)
  intro c m
  rw [← this] at m
  exact (List.mem_filter.mp m).2
theorem filt_len {l : List Nat} (h : ∀ c ∈ l, dig c = true) : (l.filter dig).length = l.length := by
  rw [List.filter_eq_self.mpr h]
section
variable {P : Program} {w : World} {K : PySem.W.Frag} {mg : Str → Option Value} {base : Heap}
abbrev s_l_is_number : Stmt := top 59
abbrev N_l_is_number : List Str := ["_law_word", "_law_most", "_law_digits", "_law_sign"]
theorem sc_l_is_number : FnScope N_l_is_number ["_law_word", "_law_most"] (defScope s_l_is_number) := ⟨rfl, rfl, rfl, by decide +kernel, rfl, by decide +kernel, by decide +kernel⟩
theorem ok_l_is_number (T : Txt mg) (D : At K mg "_law_is_number" s_l_is_number ["_law_word", "_law_most"]) : Cl P w K mg base 1 "_law_is_number" spLNum := by
  refine cl_of D sc_l_is_number (fun vs H Q E h => ?_) fun f cdv A outer s H vs Q E hr h => ?_
  · obtain ⟨s, k, rfl, _⟩ := h
    rfl
  · obtain ⟨s, k, rfl, hl, hk, q⟩ := h
    refine ⟨_, (pss_cons (ps_setLc (i := 2) (own := [("_law_sign", 3)]) rfl sc_l_is_number.nd rfl rfl (sw_true rfl rfl rfl (by decide +kernel)) (pi_str (pv 0)) (blkOk_by (N := N_l_is_number) (sc := defScope s_l_is_number) (by decide +kernel))
      (fun _ _ _ _ _ => (pg_name (i := 3) sc_l_is_number.nd rfl (Or.inl rfl)))
      (fun _ _ _ _ _ => (pts_one (pt_cmpR op_in_sign (pv 3) pe_str (by rfl))))
      (fun _ _ _ _ _ => (pv 3)))
      (pss_one (ps_ret (pe_and (pe_chain op_le op_le pe_int (pe_callB call_len_str (by rfl) T.len (by decide +kernel) (pa_cons (pv 0) pa_nil)) (pv 1)) (pe_and (pe_cmpR op_eq (pe_callB call_len_seq (by rfl) T.len (by decide +kernel) (pa_cons (pv 2) pa_nil)) (pe_callB call_len_str (by rfl) T.len (by decide +kernel) (pa_cons (pv 0) pa_nil)) (nomark _)) (pe_one (pe_or (pe_cmpR op_eq (pv 0) pe_str (nomark _)) (pe_one (pe_cmpR op_ne (pe_ix ix_str (pv 0) pe_int (fun _ _ => rfl)) pe_str (nomark _)))))))))), ?_⟩
    have hz : s.length ≤ sizeLine := Nat.le_trans hl (by decide)
    have hn : s.length = (cs s).length := len_cs s
    refine ⟨_, rfl, s, rfl, fun D1 hD1 => ?_⟩
    refine lc_data (K := K) walk_str (fun i => ((cs s)[i]?).bind fun d => if dig d = true then some (PyData.str ⟨#[d]⟩) else none) hD1 (by show s.length ≤ 100000; omega) (fun _ _ => trivial) (fun i _ d e => ?_) ?_ ?_
    · obtain ⟨b, _, e⟩ := Option.bind_eq_some_iff.mp e
      split at e
      · cases e; rfl
      · cases e
    · rintro i x H1 H2 hi s1 ⟨rfl, d, ed, rfl⟩ Q1 Q0 q1 q0
      have ed' := at_cs ed
      refine ⟨rfl, _, rfl, d, _, rfl, rfl, _, rfl, ?_⟩
      show if decide (d ∈ cs ("0123456789" : Str)) = true then _ else _
      rw [in_dig]
      cases g : dig d with
      | true => exact iteT ⟨_, rfl, q1 _ _ (.str ⟨#[d]⟩) (by rw [ed']; exact if_pos g) (Same.refl _) (.str _)⟩
      | false => exact iteF (q0 _ (by rw [ed']; exact if_neg (by rw [g]; exact Bool.false_ne_true)) (Same.refl _))
    · intro H1 acc s1 hacc ha
      rw [show s.cps.size = (cs s).length from hn, range_filtG] at ha
      have hal : acc.length = ((cs s).filter dig).length := by rw [Cm.DpAll.len ha, List.length_map]
      have qf : canon k (cs s) = false → Q (.bl false) H1 := fun e => by
        have := q H1 s1
        rw [e] at this
        exact this
      have qt : canon k (cs s) = true → Q (.bl true) H1 := fun e => by
        have := q H1 s1
        rw [e] at this
        exact this
      refine ⟨_, rfl, s, rfl, hz, _, _, rfl, rfl, _, rfl, ?_⟩
      by_cases c1 : 1 ≤ s.length
      · rw [decide_eq_true (show (1 : Int) ≤ (s.length : Nat) by omega)]
        refine iteT ⟨_, rfl, _, _, rfl, rfl, _, rfl, ?_⟩
        by_cases c2 : s.length ≤ k
        · have e2 : decide ((s.length : Int) ≤ (k : Int)) = true := decide_eq_true (by omega)
          show if decide ((s.length : Int) ≤ (k : Int)) = true then _ else _
          rw [e2]
          refine iteT ⟨_, rfl, D1, _, rfl, .inl (.inl (.inl hacc)), _, rfl, s, rfl, hz, rfl, _, rfl, ?_⟩
          by_cases c3 : acc.length = s.length
          · have e3 : decide (V.int (acc.length : Nat) = V.int (s.length : Nat)) = true := decide_eq_true (by rw [c3])
            rw [e3]
            have al := filt_all (l := cs s) (by omega)
            refine iteT ⟨_, rfl, rfl, _, rfl, ?_⟩
            rw [decS]
            by_cases c4 : s = "0"
            · rw [decide_eq_true c4]
              refine iteT (qt ?_)
              subst c4
              rw [show cs ("0" : Str) = [48] from by decide +kernel]
              exact canon_iff.mpr ⟨by simp, hk, fun c m => by rw [List.mem_singleton.mp m]; rfl, fun _ => rfl⟩
            · rw [decide_eq_false c4]
              obtain ⟨c, r, ec⟩ : ∃ c r, cs s = c :: r := by
                cases z : cs s with
                | nil => rw [z] at hn; simp at hn; omega
                | cons c r => exact ⟨c, r, rfl⟩
              refine iteF ⟨_, rfl, s, _, c, rfl, rfl, hz, atI_nat (j := 0) (by show (cs s)[0]? = some c; rw [ec]; rfl), rfl, ?_⟩
              rw [lit1 (c := 48) (by decide +kernel)]
              by_cases c5 : c = 48
              · rw [decide_eq_true c5]
                refine qf ?_
                rw [← Bool.not_eq_true]
                intro z
                have := (canon_iff.mp z).2.2.2 (by rw [ec, c5]; rfl)
                exact c4 (cs_inj (this.trans (by decide +kernel)))
              · rw [decide_eq_false c5]
                exact qt (canon_iff.mpr ⟨by rw [ec]; simp, by omega, al, fun z => by rw [ec] at z; exact absurd (Option.some.inj z) c5⟩)
          · have e3 : decide (V.int (acc.length : Nat) = V.int (s.length : Nat)) = false := decide_eq_false fun z => c3 (by injection z with z; omega)
            rw [e3]
            refine iteF (qf ?_)
            rw [← Bool.not_eq_true]
            intro z
            exact c3 (by rw [hal, filt_len (canon_iff.mp z).2.2.1, hn])
        · have e2 : decide ((s.length : Int) ≤ (k : Int)) = false := decide_eq_false (by omega)
          show if decide ((s.length : Int) ≤ (k : Int)) = true then _ else _
          rw [e2]
          refine iteF (qf ?_)
          rw [← Bool.not_eq_true]
          intro z
          have := (canon_iff.mp z).2.1
          omega
      · rw [decide_eq_false (show ¬ (1 : Int) ≤ (s.length : Nat) by omega)]
        refine iteF ⟨_, rfl, iteF (qf ?_)⟩
        have : cs s = [] := by
          cases z : cs s with
          | nil => rfl
          | cons c r => rw [z] at hn; simp at hn; omega
        rw [this]
        rfl
end
end K32

namespace K32
open PySem L2 Cm
theorem dps_strs {K : PySem.W.Frag} {H : Hp} (l : List Str) : DpAll K H (l.map V.str) (l.map PyData.str) := by
  induction l with
  | nil => exact .nil
  | cons a l ih => exact .cons (.str a) ih
theorem sh_strs {l : List Str} (h : ∀ w ∈ l, sok w) : SeqAt.shaped (.list (l.map PyData.str)) = true := (Lay.lst (n := 0) fun d m => by
  obtain ⟨w, mw, rfl⟩ := List.mem_map.mp m
  exact .str (h w mw) 0).sh (by decide)
theorem nums_filt : ∀ ws : List Str, (ws.filter fun w => !canon 5 (cs w)).isEmpty = (numsW ws).isSome
  | [] => rfl
  | w :: ws => by
    have ih := nums_filt ws
    show _ = (match numOf w, numsW ws with
      | some n, some ns => some (n :: ns)
      | _, _ => none).isSome
    unfold numOf
    cases c : canon 5 (cs w) with
    | true =>
      rw [List.filter_cons_of_neg (by simp [c]), ih, if_pos rfl]
      cases numsW ws <;> rfl
    | false =>
      rw [List.filter_cons_of_pos (by simp [c]), if_neg Bool.false_ne_true]
      rfl
section
variable {P : Program} {w : World} {K : PySem.W.Frag} {mg : Str → Option Value} {base : Heap}
abbrev s_l_are_numbers : Stmt := top 60
abbrev N_l_are_numbers : List Str := ["_law_words", "_law_word"]
theorem sc_l_are_numbers : FnScope N_l_are_numbers ["_law_words"] (defScope s_l_are_numbers) := ⟨rfl, rfl, rfl, by decide +kernel, rfl, by decide +kernel, by decide +kernel⟩
theorem ok_l_are_numbers (c_l_is_number : Cl P w K mg base 1 "_law_is_number" spLNum) (D : At K mg "_law_are_numbers" s_l_are_numbers ["_law_words"]) : Cl P w K mg base 2 "_law_are_numbers" (spLNums K) := by
  refine cl_of D sc_l_are_numbers (fun vs H Q E h => ?_) fun f cdv A outer s H vs Q E hr h => ?_
  · obtain ⟨a, ws, rfl, _⟩ := h
    rfl
  · obtain ⟨a, ws, rfl, ha, hw, k⟩ := h
    refine ⟨_, (pss_one (ps_ret (pe_cmpR (op_eqD hr.units) (pe_lc (own := [("_law_word", 1)]) rfl sc_l_are_numbers.nd (pi_list (pv 0)) (blkOk_by (N := N_l_are_numbers) (sc := defScope s_l_are_numbers) (by decide +kernel))
      (fun _ _ _ _ _ => (pg_name (i := 1) sc_l_are_numbers.nd rfl (Or.inl rfl)))
      (fun _ _ _ _ _ => (pts_one (pt_not (pt_val (pe_c c_l_is_number hr (by decide) (by rfl) (pa_cons (pv 1) (pa_cons pe_int pa_nil)))))))
      (fun _ _ _ _ _ => (pv 1))) (pe_lst pa_nil) (nomark _)))), ?_⟩
    refine ⟨_, rfl, a, rfl, ⟨_, ha⟩, fun D1 hD1 => ?_⟩
    refine lc_filt (K := K) ws (fun w => !canon 5 (cs w)) walk_list hD1 (by have := hw.1; omega) (fun H' s => s.seq ha) (fun y H1 m s1 Q1 Q0 q1 q0 => ?_) (fun H1 s1 hD2 => ?_)
    · refine ⟨rfl, _, rfl, y, 5, rfl, (hw.2 y m).1, by decide, fun H4 s4 => ⟨_, rfl, ?_⟩⟩
      cases c : canon 5 (cs y) with
      | true => exact iteF (q0 _ s4 (by rw [c]; rfl))
      | false => exact iteT ⟨_, rfl, q1 _ s4 (by rw [c]; rfl)⟩
    · refine ⟨by show 0 ≤ sizeLine; decide, fun D2 hD3 => ?_⟩
      have s2 := same_new (o := .lst []) hD3
      have hs : ∀ z ∈ ws.filter (fun w => !canon 5 (cs w)), sok z := fun z m => (hw.2 z (List.mem_filter.mp m).1).2
      refine ⟨.list ((ws.filter fun w => !canon 5 (cs w)).map PyData.str), .list [], .lst (.inl (.inl (s2 _ _ hD2))) (dps_strs _), .lst (.inl (.inl upd_same)) .nil, sh_strs hs, rfl, ?_⟩
      have e : PyData.eqv (.list ((ws.filter fun w => !canon 5 (cs w)).map PyData.str)) (.list []) = (numsW ws).isSome := by
        rw [← nums_filt]
        cases ws.filter fun w => !canon 5 (cs w) <;> rfl
      rw [e]
      exact k _ (s1.trans s2)
abbrev s_l_is_value : Stmt := top 61
abbrev N_l_is_value : List Str := ["_law_word", "_law_bare"]
theorem sc_l_is_value : FnScope N_l_is_value ["_law_word"] (defScope s_l_is_value) := ⟨rfl, rfl, rfl, by decide +kernel, rfl, by decide +kernel, by decide +kernel⟩
def spLVal : Sp := fun vs H Q _ => ∃ s : Str, vs = [.str s] ∧ s.length ≤ 60000 ∧ ∀ H', Same H H' → Q (.bl (itemOf .val s).isSome) H'
theorem cutS_one {s : Str} {c : Nat} {r : List Nat} (e : cs s = c :: r) : cutS s Option.none (some (1 : Int)) = ⟨#[c]⟩ := by
  apply cs_inj
  unfold cutS
  have z := HT.sIx_nat s.length s.length 1
  rw [show (some (1 : Int)) = some ((1 : Nat) : Int) from rfl, z]
  have sn : HT.sIx s.length 0 Option.none = 0 := rfl
  rw [sn]
  show cs (ofL _) = [c]
  rw [cs_ofL]
  have hl : s.length = r.length + 1 := by rw [len_cs, e]; rfl
  rw [Nat.min_eq_left (by omega)]
  show List.take _ ((cs s).drop 0) = _
  rw [e]
  rfl
theorem val_law (s : Str) (h : s ∉ consW) : (itemOf .val s).isSome = (canon 10 (cs (bare s)) && (decide (dval (cs (bare s)) ≤ 1000000000) && !decide (s = "-0"))) := by
  have e : (itemOf .val s) = (valOf s).map .v := if_neg h
  rw [e, Option.isSome_map]
  have vn : ∀ l, (valN l).isSome = (canon 10 l && decide (dval l ≤ 1000000000)) := fun l => by
    unfold valN
    cases canon 10 l with
    | false => rfl
    | true =>
      by_cases q : dval l ≤ 1000000000
      · rw [if_pos ⟨rfl, q⟩, decide_eq_true q]; rfl
      · rw [if_neg fun z => q z.2, decide_eq_false q]; rfl
  have m0 : cs ("-0" : Str) = [45, 48] := by decide +kernel
  unfold valOf bare
  by_cases g : (cs s).head? = some 45
  · rw [if_pos g, if_pos g, cs_ofL]
    have hs : cs s = 45 :: (cs s).drop 1 := by
      cases z : cs s with
      | nil => rw [z] at g; cases g
      | cons x r => rw [z] at g; cases g; rfl
    by_cases q0 : (cs s).drop 1 = [48]
    · have : s = "-0" := cs_inj (by rw [hs, q0, m0])
      rw [if_pos q0, decide_eq_true this]
      simp
    · have : ¬ s = "-0" := fun z => q0 (by rw [z, m0]; rfl)
      rw [if_neg q0, Option.isSome_map, vn, decide_eq_false this]
      simp
  · have : ¬ s = "-0" := fun z => g (by rw [z, m0]; rfl)
    rw [if_neg g, if_neg g, Option.isSome_map, vn, decide_eq_false this]
    simp
theorem ok_l_is_value (T : Txt mg) (c_l_is_number : Cl P w K mg base 1 "_law_is_number" spLNum) (D : At K mg "_law_is_value" s_l_is_value ["_law_word"]) : Cl P w K mg base 2 "_law_is_value" spLVal := by
  refine cl_of D sc_l_is_value (fun vs H Q E h => ?_) fun f cdv A outer s H vs Q E hr h => ?_
  · obtain ⟨s, rfl, _⟩ := h
    rfl
  · obtain ⟨s, rfl, hl, k⟩ := h
    refine ⟨_, (pss_cons (ps_if (pt_inW (pv 0) (.cons (.cons (.cons .nil))) (show 3 ≤ sizeLine by decide) (by rfl))
        (pss_one (ps_ret pe_bl))
        pss_nil)
      (pss_mid (ps_set (i := 1) sc_l_is_value.nd rfl (Or.inl rfl) (pe_ifExp (pt_cmpR op_eq (pe_slice sl_str (pv 0) po_none (po_some pe_int)) pe_str (nomark _)) (pe_slice sl_str (pv 0) (po_some pe_int) po_none) (pv 0)))
      (pss_one (ps_ret (pe_and (pe_c c_l_is_number hr (by decide) (by rfl) (pa_cons (pv 1) (pa_cons pe_int pa_nil))) (pe_and (pe_cmpR op_le (pe_callTy call_int_str (by rfl) T.int (by decide +kernel) (pa_cons (pv 1) pa_nil)) (pe_op op_pow pe_int pe_int) (nomark _)) (pe_one (pe_cmpR op_ne (pv 0) pe_str (nomark _))))))))), ?_⟩
    have hz : s.length ≤ sizeLine := Nat.le_trans hl (by decide)
    refine ⟨_, rfl, rfl, fun H2 s2 => ?_⟩
    refine in_strs (l := consW) (fun m => ?_) (fun m => ?_)
    · have := k H2 s2
      rw [show (itemOf .val s).isSome = true from by rw [show itemOf .val s = some (.c s) from if_pos m]; rfl] at this
      exact this
    · refine ⟨fun σ' H' => σ' = [some (.str s), some (.str (bare s))] ∧ H' = H2, ?_, ?_⟩
      · refine ⟨_, rfl, _, rfl, s, rfl, hz, rfl, _, rfl, ?_⟩
        cases q : cs s with
        | nil =>
          have e0 : s = "" := cs_inj q
          subst e0
          rw [show cutS ("" : Str) Option.none (some (1 : Int)) = "" from by decide +kernel, decS, decide_eq_false (by decide +kernel)]
          exact iteF ⟨_, rfl, by decide +kernel, rfl⟩
        | cons c r =>
          rw [cutS_one q, lit1 (c := 45) (by decide +kernel)]
          by_cases z : c = 45
          · rw [decide_eq_true z]
            refine iteT ⟨_, rfl, _, rfl, s, rfl, hz, ?_, rfl⟩
            rw [cut_one]
            unfold bare
            rw [q, if_pos (by rw [z]; rfl)]
            rfl
          · rw [decide_eq_false z]
            refine iteF ⟨_, rfl, ?_, rfl⟩
            unfold bare
            rw [q, if_neg (fun h : (c :: r).head? = some 45 => z (Option.some.inj h))]
            rfl
      · rintro σ' H' ⟨rfl, rfl⟩
        have kk := fun H3 (s3 : Same H' H3) => k H3 (s2.trans s3)
        rw [val_law s m] at kk
        have hb := bare_len s
        generalize bare s = b at hb kk ⊢
        refine ⟨_, rfl, b, 10, rfl, Nat.le_trans hb hl, by decide, fun H3 s3 => ⟨_, rfl, ?_⟩⟩
        have k3 := kk H3 s3
        cases c : canon 10 (cs b) with
        | false =>
          rw [c] at k3
          exact iteF k3
        | true =>
          rw [c, Bool.true_and] at k3
          obtain ⟨c1, c2, c3, c4⟩ := canon_iff.mp c
          have back := numL_back (cs b) c1 c3 c4
          generalize dval (cs b) = n at back k3
          have eb : b = numS (n : Nat) := cs_inj (by rw [numS_nat, back])
          subst eb
          refine iteT ⟨_, rfl, _, _, rfl, TL.int_num (n := n) (by rw [← numS_nat]; omega), by rw [len_cs]; omega, _, _, rfl, rfl, ⟨by decide, by decide, by decide⟩, _, _, rfl, rfl, _, rfl, ?_⟩
          have e9 : ((10 : Int) ^ (9 : Int).toNat) = 1000000000 := by decide
          show if decide (((n : Nat) : Int) ≤ (10 : Int) ^ (9 : Int).toNat) = true then _ else _
          rw [e9]
          by_cases q : n ≤ 1000000000
          · rw [decide_eq_true (show ((n : Nat) : Int) ≤ 1000000000 by omega)]
            rw [decide_eq_true q, Bool.true_and] at k3
            refine iteT ⟨_, rfl, rfl, ?_⟩
            rw [decS]
            exact k3
          · rw [decide_eq_false (show ¬ ((n : Nat) : Int) ≤ 1000000000 by omega)]
            rw [decide_eq_false q] at k3
            exact iteF k3
end
end K32

namespace K32
open PySem L2 Cm
def recOk (ws : List Str) : Bool := match items [.num, .pairs] ws with
  | some (_, []) => true
  | _ => false
theorem recOk_cons (w : Str) (ws : List Str) : recOk (w :: ws) = ((numOf w).isSome && (pairsOf ws).isSome) := by
  have e : items [.num, .pairs] (w :: ws) = match (numOf w).map It5.n with
    | none => none
    | some i => (items [.pairs] ws).map fun p => (i :: p.1, p.2) := rfl
  have e2 : items [.pairs] ws = match pairsOf ws with
    | none => none
    | some ks => some ([.ps ks], []) := items_pairs [] ws
  unfold recOk
  rw [e, e2]
  cases numOf w with
  | none => rfl
  | some n => cases pairsOf ws <;> rfl
theorem recOk_no {ws : List Str} (h : numsW ws = none) : recOk ws = false := by
  cases ws with
  | nil => rfl
  | cons w ws =>
    rw [recOk_cons]
    have h' : (match numOf w, numsW ws with
      | some n, some ns => some (n :: ns)
      | _, _ => none) = none := h
    cases e1 : numOf w with
    | none => rfl
    | some n =>
      rw [e1] at h'
      cases e2 : numsW ws with
      | some ns => rw [e2] at h'; cases h'
      | none =>
        unfold pairsOf
        rw [e2]
        rfl
theorem recOk_yes {ws : List Str} {n : Nat} {ns : List Nat} (h : numsW ws = some (n :: ns)) : recOk ws = (!ns.isEmpty && (pairsF ns.length ns).isSome) := by
  cases ws with
  | nil => cases h
  | cons w ws =>
    rw [recOk_cons]
    have h' : (match numOf w, numsW ws with
      | some n, some ns => some (n :: ns)
      | _, _ => none) = some (n :: ns) := h
    cases e1 : numOf w with
    | none => rw [e1] at h'; cases h'
    | some m =>
      rw [e1] at h'
      cases e2 : numsW ws with
      | none => rw [e2] at h'; cases h'
      | some ms =>
        rw [e2] at h'
        cases h'
        unfold pairsOf
        rw [e2]
        cases ns <;> rfl
def InvR (m n : Nat) (ns : List Nat) (at_ : Nat) : Prop := ∃ f, ((n :: ns).drop at_).length ≤ f ∧ (pairsF ns.length ns).isSome = if at_ ≤ m then (pairsF f ((n :: ns).drop at_)).isSome else false
theorem recOk_few {ws : List Str} (h : ws.length < 3) : recOk ws = false := by
  match ws, h with
  | [], _ => rfl
  | [x], _ =>
    rw [recOk_cons]
    have e : pairsOf [] = none := rfl
    rw [e, Option.isSome_none, Bool.and_false]
  | [x, y], _ =>
    rw [recOk_cons]
    have : pairsOf [y] = none := by
      unfold pairsOf
      have e : numsW [y] = match numOf y with
        | some n => some [n]
        | none => none := by
        unfold numsW
        cases numOf y <;> rfl
      rw [e]
      cases numOf y <;> rfl
    rw [this, Option.isSome_none, Bool.and_false]
def spLRec (K : PySem.W.Frag) : Sp := fun vs H Q _ => ∃ (a : Addr) (ws : List Str), vs = [.ref a] ∧ SqL K H a (ws.map V.str) ∧ WdL ws ∧ ∀ H', Same H H' → Q (.bl (recOk ws)) H'
section
variable {P : Program} {w : World} {K : PySem.W.Frag} {mg : Str → Option Value} {base : Heap}
abbrev s_l_good_rec : Stmt := top 62
abbrev N_l_good_rec : List Str := ["_law_words", "_law_at", "_law_turn"]
theorem sc_l_good_rec : FnScope N_l_good_rec ["_law_words"] (defScope s_l_good_rec) := ⟨rfl, rfl, rfl, by decide +kernel, rfl, by decide +kernel, by decide +kernel⟩
theorem ok_l_good_rec (T : Txt mg) (c_l_are_numbers : Cl P w K mg base 2 "_law_are_numbers" (spLNums K)) (D : At K mg "_law_good_rec" s_l_good_rec ["_law_words"]) : Cl P w K mg base 3 "_law_good_rec" (spLRec K) := by
  refine cl_of D sc_l_good_rec (fun vs H Q E h => ?_) fun f cdv A outer s H vs Q E hr h => ?_
  · obtain ⟨a, ws, rfl, _⟩ := h
    rfl
  · obtain ⟨a, ws, rfl, ha, hw, k⟩ := h
    refine ⟨_, (pss_cons (ps_if (PW.pt (pw_or (pt_cmpR op_lt (pe_callB call_len_seq (by rfl) T.len (by decide +kernel) (pa_cons (pv 0) pa_nil)) pe_int (nomark _)) (pw_or1 (pt_not (pt_val (pe_c c_l_are_numbers hr (by decide) (by rfl) (pa_cons (pv 0) pa_nil)))))))
        (pss_one (ps_ret pe_bl))
        pss_nil)
      (pss_mid (ps_set (i := 1) sc_l_good_rec.nd rfl (Or.inl rfl) pe_int)
      (pss_cons (ps_for PassesOwn.never rfl (pi_range1 (by rfl) T.range (pa_cons (pe_callB call_len_seq (by rfl) T.len (by decide +kernel) (pa_cons (pv 0) pa_nil)) pa_nil)) (pg_name (i := 2) sc_l_good_rec.nd rfl (Or.inl rfl))
        (pss_cons (ps_if (pt_cmpR op_ge (pv 1) (pe_callB call_len_seq (by rfl) T.len (by decide +kernel) (pa_cons (pv 0) pa_nil)) (nomark _))
          (pss_one ps_break)
          pss_nil)
        (pss_cons (ps_if (pt_cmpR op_ge (pe_op op_add (pv 1) pe_int) (pe_callB call_len_seq (by rfl) T.len (by decide +kernel) (pa_cons (pv 0) pa_nil)) (nomark _))
          (pss_one (ps_ret pe_bl))
          pss_nil)
        (pss_one (ps_set (i := 1) sc_l_good_rec.nd rfl (Or.inl rfl) (pe_op op_add (pe_op op_add (pv 1) pe_int) (pe_callTy call_int_str (by rfl) T.int (by decide +kernel) (pa_cons (pe_ix ix_list (pv 0) (pe_op op_add (pv 1) pe_int) (fun _ _ => rfl)) pa_nil))))))))
      (pss_one (ps_ret (pe_cmpR op_eq (pv 1) (pe_callB call_len_seq (by rfl) T.len (by decide +kernel) (pa_cons (pv 0) pa_nil)) (nomark _))))))), ?_⟩
    have hml : (ws.map V.str).length = ws.length := List.length_map _
    refine ⟨_, rfl, a, _, rfl, .inl ha, _, _, rfl, rfl, _, rfl, ?_⟩
    rw [hml]
    by_cases c3 : ws.length < 3
    · rw [decide_eq_true (show (ws.length : Int) < 3 by omega)]
      refine iteT ?_
      have e : recOk ws = false := recOk_few c3
      have := k H (Same.refl _)
      rw [e] at this
      exact this
    rw [decide_eq_false (show ¬ (ws.length : Int) < 3 by omega)]
    refine iteF ⟨_, rfl, a, ws, rfl, ha, hw, fun H1 s1 => ⟨_, rfl, ?_⟩⟩
    have k1 := k H1 s1
    cases en : numsW ws with
    | none =>
      rw [recOk_no en] at k1
      exact iteT k1
    | some nsw =>
      refine iteF ?_
      have hlen : nsw.length = ws.length := by
        have := congrArg List.length (nums_inv en).1
        simpa using this
      obtain ⟨n, ns, rfl⟩ : ∃ n ns, nsw = n :: ns := by
        cases nsw with
        | nil => simp at hlen; omega
        | cons n ns => exact ⟨n, ns, rfl⟩
      rw [recOk_yes en] at k1
      have hne : ns.isEmpty = false := by
        cases ns with
        | nil => simp at hlen; omega
        | cons _ _ => rfl
      rw [hne, Bool.not_false, Bool.true_and] at k1
      have ha1 := s1.seq ha
      refine ⟨fun σ' H' => σ' = [some (.ref a), some (.int 1), none] ∧ H' = H1, ⟨rfl, rfl⟩, ?_⟩
      rintro σ' H' ⟨rfl, rfl⟩
      -- what the rest answers
      have fin : ∀ (at_ : Nat) (v2 : Option V), ws.length ≤ at_ → InvR ws.length n ns at_ → tRet (tOp rEq (tVar 1) (tCB (Cm.rLen K) (tCons (tVar 0) tNil))) { nx := fun _ H' => Q .non H', rt := Q } [some (.ref a), some (.int (at_ : Nat)), v2] H' := fun at_ v2 hge hi => by
        obtain ⟨f, hf, e⟩ := hi
        refine ⟨_, rfl, _, rfl, a, _, rfl, .inl ha1, rfl, ?_⟩
        rw [hml]
        by_cases q : at_ = ws.length
        · rw [if_pos (by omega), List.drop_of_length_le (by omega)] at e
          have e2 : pairsF f [] = some [] := by cases f <;> rfl
          rw [e2] at e
          rw [e] at k1
          rw [decide_eq_true (by rw [q])]
          exact k1
        · rw [if_neg (by omega)] at e
          rw [e] at k1
          rw [decide_eq_false (fun z => by injection z with z; omega)]
          exact k1
      refine ⟨_, rfl, a, _, rfl, .inl ha1, ?_⟩
      have hwl := hw.1
      refine ⟨_, rfl, by rw [hml]; omega, by rw [hml]; omega, ?_⟩
      have eto : (((ws.map V.str).length : Nat) : Int).toNat = ws.length := by rw [hml]; omega
      refine for_it (walk_upto (n := (((ws.map V.str).length : Nat) : Int).toNat)) (fun i σ H2 => ∃ (at_ : Nat) (v2 : Option V), σ = [some (.ref a), some (.int (at_ : Nat)), v2] ∧ H2 = H' ∧ 1 + 2 * i ≤ at_ ∧ InvR ws.length n ns at_) ?_ (fun _ _ _ _ _ => trivial) ?_ ?_
      · exact ⟨1, none, rfl, rfl, by omega, ns.length, by show ns.length ≤ _; omega, by rw [if_pos (by omega)]; rfl⟩
      · rintro i v σ H2 H3 hi ⟨at_, v2, rfl, rfl, hat, hinv⟩ ⟨rfl, rfl⟩
        refine ⟨_, rfl, _, rfl, a, _, rfl, .inl ha1, _, _, rfl, rfl, _, rfl, ?_⟩
        show if decide (((ws.map V.str).length : Int) ≤ ((at_ : Nat) : Int)) = true then _ else _
        rw [hml]
        by_cases c1 : ws.length ≤ at_
        · rw [decide_eq_true (show (ws.length : Int) ≤ ((at_ : Nat) : Int) by omega)]
          exact iteT (fin at_ _ c1 hinv)
        · rw [decide_eq_false (show ¬ (ws.length : Int) ≤ ((at_ : Nat) : Int) by omega)]
          obtain ⟨f, hf, e⟩ := hinv
          rw [if_pos (by omega)] at e
          have hl2 : (n :: ns).length = ws.length := hlen
          refine iteF ⟨_, rfl, _, _, rfl, rfl, _, rfl, a, _, rfl, .inl ha1, _, _, rfl, rfl, _, rfl, ?_⟩
          show if decide (((ws.map V.str).length : Int) ≤ ((at_ : Nat) : Int) + 1) = true then _ else _
          rw [hml]
          by_cases c2 : ws.length ≤ at_ + 1
          · rw [decide_eq_true (show (ws.length : Int) ≤ ((at_ : Nat) : Int) + 1 by omega)]
            have ed : (n :: ns).drop at_ = [(n :: ns)[at_]'(by omega)] := by
              rw [List.drop_eq_getElem_cons (by omega), List.drop_of_length_le (by omega)]
            rw [ed] at e
            have e2 : ∀ b, pairsF f [b] = none := fun b => by cases f <;> rfl
            rw [e2] at e
            rw [e] at k1
            exact iteT k1
          · rw [decide_eq_false (show ¬ (ws.length : Int) ≤ ((at_ : Nat) : Int) + 1 by omega)]
            have ed : (n :: ns).drop at_ = (n :: ns)[at_]'(by omega) :: (n :: ns)[at_ + 1]'(by omega) :: (n :: ns).drop (at_ + 2) := by
              rw [List.drop_eq_getElem_cons (by omega), List.drop_eq_getElem_cons (i := at_ + 1) (by omega)]
            have hat1 : ws[at_ + 1]? = some (nS ((n :: ns)[at_ + 1]'(by omega))) := by
              have e9 : ((n :: ns).map nS)[at_ + 1]? = some (nS ((n :: ns)[at_ + 1]'(by omega))) := by
                rw [List.getElem?_map, List.getElem?_eq_getElem (show at_ + 1 < (n :: ns).length by omega)]
                rfl
              exact (congrArg (fun l : List Str => l[at_ + 1]?) (nums_inv en).1).symm.trans e9
            have hkb := (nums_inv en).2 ((n :: ns)[at_ + 1]'(by omega)) (List.getElem_mem _)
            generalize (n :: ns)[at_ + 1]'(by omega) = kk at ed hat1 hkb
            generalize (n :: ns)[at_]'(by omega) = bb at ed
            rw [ed] at hf e
            obtain ⟨f2, rfl⟩ : ∃ f2, f = f2 + 1 := ⟨f - 1, by rw [List.length_cons] at hf; omega⟩
            have ef : pairsF (f2 + 1) (bb :: kk :: (n :: ns).drop (at_ + 2)) = if ((n :: ns).drop (at_ + 2)).length < kk then none else match pairsF f2 (((n :: ns).drop (at_ + 2)).drop kk) with
              | some ps => some ((bb, ((n :: ns).drop (at_ + 2)).take kk) :: ps)
              | none => none := rfl
            rw [ef] at e
            have hatv : atI (ws.map V.str) (((at_ : Nat) : Int) + 1) = some (.str (nS kk)) := by
              have : (((at_ : Nat) : Int) + 1) = ((at_ + 1 : Nat) : Int) := by omega
              rw [this]
              exact atI_nat (by rw [List.getElem?_map, hat1]; rfl)
            have hnl : (TL.numL kk).length ≤ 5 := TL.numL_len (k := 5) (by decide) hkb
            refine iteF ⟨_, rfl, _, _, rfl, rfl, _, rfl, _, rfl, _, _, rfl, rfl, a, _, _, _, rfl, rfl, ha1, hatv, _, _, rfl, TL.int_num (n := kk) (by omega), ?_, _, _, rfl, rfl, ?_⟩
            · show (numS (kk : Nat)).length ≤ 640
              rw [len_cs, numS_nat]
              omega
            · refine ⟨at_ + 2 + kk, some (.int ((i : Nat) : Int)), ?_, rfl, by omega, f2, ?_, ?_⟩
              · have : ((at_ : Nat) : Int) + 2 + ((kk : Nat) : Int) = ((at_ + 2 + kk : Nat) : Int) := by omega
                rw [← this]
                rfl
              · rw [List.length_cons, List.length_cons, List.length_drop] at hf
                rw [List.length_drop]
                omega
              · rw [e, List.length_drop, hl2, List.drop_drop]
                by_cases q : ws.length - (at_ + 2) < kk
                · rw [if_pos q, if_neg (by omega)]
                  rfl
                · rw [if_neg q, if_pos (by omega)]
                  cases pairsF f2 ((n :: ns).drop (at_ + 2 + kk)) <;> rfl
      · rintro σ H2 ⟨at_, v2, rfl, rfl, hat, hinv⟩
        rw [eto] at hat
        exact fin at_ v2 (by omega) hinv
end
end K32

namespace K32
open PySem L2 Cm
def spJoined (K : PySem.W.Frag) : Sp := fun vs H Q _ => ∃ (x : Str) (t : Addr) (ks : List Nat), vs = [.str x, .ref t] ∧ (SqL K H t (ks.map numv) ∨ SqT K H t (ks.map numv)) ∧ x.length ≤ 1000 ∧ ks.length ≤ 1000 ∧ (∀ n ∈ ks, n < 100000) ∧ ∀ H', Same H H' → Q (.str (Str.join " " (x :: ks.map nS))) H'
def spNumber : Sp := fun vs H Q _ => ∃ (h c : Addr), vs = [.ref h] ∧ Hand H h c ∧ ∀ (n : Nat) (H' : Hp), n < 100000 → Kh h H H' → Hand H' h c → Q (numv n) H'
theorem nS_len {n : Nat} (h : n < 100000) : (nS n).length ≤ 5 := by
  show (numS (n : Nat)).length ≤ 5
  rw [len_cs, numS_nat]
  exact TL.numL_len (k := 5) (by decide) h
theorem nS_sum : ∀ {ks : List Nat}, (∀ n ∈ ks, n < 100000) → ((ks.map nS).map (·.length)).sum ≤ 5 * ks.length
  | [], _ => Nat.le_refl _
  | n :: ks, h => by
    have ih := nS_sum (ks := ks) fun m hm => h m (List.mem_cons_of_mem _ hm)
    have := nS_len (h n List.mem_cons_self)
    rw [List.map_cons, List.map_cons, List.sum_cons, List.length_cons]
    omega
section
variable {P : Program} {w : World} {K : PySem.W.Frag} {mg : Str → Option Value} {base : Heap}
abbrev s_l_joined : Stmt := top 57
abbrev N_l_joined : List Str := ["_law_word", "_law_numbers_here", "_law_each"]
theorem sc_l_joined : FnScope N_l_joined ["_law_word", "_law_numbers_here"] (defScope s_l_joined) := ⟨rfl, rfl, rfl, by decide +kernel, rfl, by decide +kernel, by decide +kernel⟩
theorem ok_l_joined (T : Txt mg) (D : At K mg "_law_joined" s_l_joined ["_law_word", "_law_numbers_here"]) : Cl P w K mg base 1 "_law_joined" (spJoined K) := by
  refine cl_of D sc_l_joined (fun vs H Q E h => ?_) fun f cdv A outer s H vs Q E hr h => ?_
  · obtain ⟨x, t, ks, rfl, _⟩ := h
    rfl
  · obtain ⟨x, t, ks, rfl, ht, hx, hk, hn, k⟩ := h
    refine ⟨_, (pss_one (ps_ret (pe_join pe_str (pe_op op_cat (pe_lst (pa_cons (pv 0) pa_nil)) (pe_lc (own := [("_law_each", 2)]) rfl sc_l_joined.nd (pi_seq (pv 1)) (blkOk_by (N := N_l_joined) (sc := defScope s_l_joined) (by decide +kernel))
      (fun _ _ _ _ _ => (pg_name (i := 2) sc_l_joined.nd rfl (Or.inl rfl)))
      (fun _ _ _ _ _ => pts_nil)
      (fun _ _ _ _ _ => (pe_callTy call_str_int (by rfl) T.str (by decide +kernel) (pa_cons (pv 2) pa_nil)))))))), ?_⟩
    refine ⟨⟨_, rfl⟩, _, rfl, by show 1 ≤ sizeLine; decide, fun A0 hA => ?_⟩
    have s1 := same_new (o := .lst [.str x]) hA
    have fin : ∀ (D1 : Addr) (H1 : Hp), Same (upd H A0 (.lst [.str x])) H1 → H1 D1 = some (.lst (ks.map fun n => .str (nS n))) → rCat (.ref A0) (.ref D1) H1 fun x_1 H1 => tNil [some (.str x), some (.ref t), none] H1 fun xs H2 =>
        ∃ a p, ∃ ys : List Str, V.str " " = .str a ∧ (x_1 :: xs) = [.ref p] ∧ (SqL K H2 p (ys.map V.str) ∨ SqT K H2 p (ys.map V.str)) ∧ (ys.map (·.length)).sum + ys.length * a.length ≤ 16777216 ∧ Q (.str (Txt.join a ys)) H2 := fun D1 H1 s2 hD => by
      refine ⟨A0, D1, _, _, rfl, rfl, s2 _ _ upd_same, hD, ?_, fun p hp => ?_⟩
      · rw [List.length_map]
        exact Nat.le_trans (show [V.str x].length + ks.length ≤ 1001 by show 1 + _ ≤ _; omega) (by decide)
      · have s3 := same_new (o := .lst ([V.str x] ++ ks.map fun n => .str (nS n))) hp
        refine ⟨" ", p, x :: ks.map nS, rfl, rfl, .inl (.inl (.inl ?_)), ?_, ?_⟩
        · rw [upd_same, List.map_cons, List.map_map]
          rfl
        · have := nS_sum hn
          have e1 : (" " : Str).length = 1 := by decide +kernel
          rw [List.map_cons, List.sum_cons, e1, List.length_cons, List.length_map]
          omega
        · rw [TL.join_eq]
          exact k _ ((s1.trans s2).trans s3)
    rcases ht with ht | ht
    · refine ⟨_, rfl, t, rfl, .inl ⟨⟨_, s1.seq ht⟩, fun D1 hD1 => ?_⟩⟩
      refine lc_mapF (K := K) ks numv (fun n => .str (nS n)) (fun n => .str (nS n)) (fun _ => rfl) (fun H v x h => by cases h; rfl) walk_list hD1 (by omega) (fun H' s => (s1.trans s).seq ht) (fun y H1 m s2 Q1 Q0 q1 => ?_) (fun H1 s2 hD2 => fin D1 H1 s2 hD2)
      exact ⟨rfl, _, rfl, _, rfl, log_small (Nat.lt_trans (hn y m) (by decide)), q1 _ _ (Same.refl _) (.str _)⟩
    · refine ⟨_, rfl, t, rfl, .inr ⟨⟨_, sqt_same s1 ht⟩, fun D1 hD1 => ?_⟩⟩
      refine lc_mapF (K := K) ks numv (fun n => .str (nS n)) (fun n => .str (nS n)) (fun _ => rfl) (fun H v x h => by cases h; rfl) walk_tup hD1 (by omega) (fun H' s => sqt_same (s1.trans s) ht) (fun y H1 m s2 Q1 Q0 q1 => ?_) (fun H1 s2 hD2 => fin D1 H1 s2 hD2)
      exact ⟨rfl, _, rfl, _, rfl, log_small (Nat.lt_trans (hn y m) (by decide)), q1 _ _ (Same.refl _) (.str _)⟩
end
end K32

namespace K32
open PySem L2 Cm
def spNumbers (K : PySem.W.Frag) : Sp := fun vs H Q _ => ∃ (h c : Addr) (m : Nat), vs = [.ref h, .int (m : Nat)] ∧ Hand H h c ∧ m ≤ 60 ∧ ∀ (ks : List Nat) (t : Addr) (H' : Hp), ks.length = m → (∀ n ∈ ks, n < 100000) → Kh h H H' → Hand H' h c → SqT K H' t (ks.map numv) → Q (.ref t) H'
section
variable {P : Program} {w : World} {K : PySem.W.Frag} {mg : Str → Option Value} {base : Heap}
abbrev s_l_number : Stmt := top 53
abbrev N_l_number : List Str := ["_law_hand_here"]
theorem sc_l_number : FnScope N_l_number ["_law_hand_here"] (defScope s_l_number) := ⟨rfl, rfl, rfl, by decide +kernel, rfl, by decide +kernel, by decide +kernel⟩
theorem ok_l_number (c_l_draw : Cl P w K mg base 2 "_law_draw" spDraw) (c_l_pick : Cl P w K mg base 3 "_law_pick" (spPick K)) (D : At K mg "_law_number" s_l_number ["_law_hand_here"]) : Cl P w K mg base 4 "_law_number" spNumber := by
  refine cl_of D sc_l_number (fun vs H Q E h => ?_) fun f cdv A outer s H vs Q E hr h => ?_
  · obtain ⟨h, c, rfl, _⟩ := h
    rfl
  · obtain ⟨h, c, rfl, hh, k⟩ := h
    refine ⟨_, (pss_one (ps_ret (pe_c c_l_pick hr (by decide) (by rfl) (pa_cons (pv 0) (pa_cons (pe_tup (pa_cons pe_int (pa_cons pe_int (pa_cons pe_int (pa_cons pe_int (pa_cons pe_int (pa_cons (pe_c c_l_draw hr (by decide) (by rfl) (pa_cons (pv 0) (pa_cons pe_int pa_nil))) (pa_cons (pe_c c_l_draw hr (by decide) (by rfl) (pa_cons (pv 0) (pa_cons pe_int pa_nil))) pa_nil)))))))) pa_nil))))), ?_⟩
    refine ⟨_, rfl, _, rfl, h, c, 100000, rfl, hh, by decide, by decide, fun n1 H1 a1 b1 k1 h1 => ?_⟩
    refine ⟨_, rfl, h, c, 50, rfl, h1, by decide, by decide, fun n2 H2 a2 b2 k2 h2 => ?_⟩
    refine ⟨by show 7 ≤ sizeLine; decide, fun p hp => ?_⟩
    have s3 := same_new (o := .tup [.int 0, .int 1, .int 9, .int 10, .int 99999, .int n1, .int n2]) hp
    refine ⟨h, c, p, _, rfl, h2.same s3, .inr (.inl (.inl upd_same)), by simp, by show 7 ≤ 1000; decide, fun v H3 m k3 h3 => ?_⟩
    have kk := ((k1.trans k2).trans (h2.kh s3)).trans k3
    have fin : ∀ i : Int, 0 ≤ i → i < 100000 → v = .int i → Q v H3 := fun i i0 i1 e => by
      have e2 : v = numv i.toNat := by
        rw [e]
        show V.int i = V.int ((i.toNat : Nat) : Int)
        rw [Int.toNat_of_nonneg i0]
      rw [e2]
      exact k _ _ (by omega) kk h3
    simp only [List.mem_cons, List.not_mem_nil, or_false] at m
    rcases m with e | e | e | e | e | e | e
    · exact fin 0 (by decide) (by decide) e
    · exact fin 1 (by decide) (by decide) e
    · exact fin 9 (by decide) (by decide) e
    · exact fin 10 (by decide) (by decide) e
    · exact fin 99999 (by decide) (by decide) e
    · exact fin n1 a1 b1 e
    · exact fin n2 a2 (by omega) e
abbrev s_l_numbers : Stmt := top 54
abbrev N_l_numbers : List Str := ["_law_hand_here", "_law_many", "_law_k"]
theorem sc_l_numbers : FnScope N_l_numbers ["_law_hand_here", "_law_many"] (defScope s_l_numbers) := ⟨rfl, rfl, rfl, by decide +kernel, rfl, by decide +kernel, by decide +kernel⟩
theorem ok_l_numbers (T : Txt mg) (c_l_number : Cl P w K mg base 4 "_law_number" spNumber) (D : At K mg "_law_numbers" s_l_numbers ["_law_hand_here", "_law_many"]) : Cl P w K mg base 5 "_law_numbers" (spNumbers K) := by
  refine cl_of D sc_l_numbers (fun vs H Q E h => ?_) fun f cdv A outer s H vs Q E hr h => ?_
  · obtain ⟨h, c, m, rfl, _⟩ := h
    rfl
  · obtain ⟨h, c, m, rfl, hh, hm, k⟩ := h
    refine ⟨_, (pss_one (ps_ret (pe_tupleOf (by rfl) T.tuple (pe_lc (own := [("_law_k", 2)]) rfl sc_l_numbers.nd (pi_range1 (by rfl) T.range (pa_cons (pv 1) pa_nil)) (blkOk_by (N := N_l_numbers) (sc := defScope s_l_numbers) (by decide +kernel))
      (fun _ _ _ _ _ => (pg_name (i := 2) sc_l_numbers.nd rfl (Or.inl rfl)))
      (fun _ _ _ _ _ => pts_nil)
      (fun _ _ _ _ _ => (pe_c c_l_number hr (by decide) (by rfl) (pa_cons (pv 0) pa_nil))))))), ?_⟩
    refine ⟨_, rfl, _, rfl, by omega, by omega, fun D1 hD1 => ?_⟩
    have eto : ((m : Nat) : Int).toNat = m := by omega
    have nD : D1 ≠ h := (hh.there hD1).1
    refine lc_it (walk_upto (n := ((m : Nat) : Int).toNat)) (fun i H' => ∃ ks : List Nat, Kh h H H' ∧ Hand H' h c ∧ H' D1 = some (.lst (ks.map numv)) ∧ ks.length = i ∧ ∀ n ∈ ks, n < 100000) ?_ (fun _ _ _ _ => trivial) ?_ ?_
    · exact ⟨[], hh.kr.mut hD1, hh.same (same_new hD1), upd_same, rfl, fun n z => by cases z⟩
    · rintro i v H1 H2 hi ⟨ks, k1, h1, hD2, hl, hn⟩ ⟨rfl, rfl⟩
      refine ⟨rfl, _, rfl, h, c, rfl, h1, fun n H3 hn3 k3 h3 => ?_⟩
      have hD3 : H3 D1 = some (.lst (ks.map numv)) := k3.st _ _ nD hD2
      refine ⟨_, hD3, ?_, ks ++ [n], (k1.trans k3).mut hD1, h3.puts (hh.there hD1).1 (hh.there hD1).2, ?_, by rw [List.length_append, hl]; rfl, fun x z => ?_⟩
      · rw [List.length_map]
        exact Nat.lt_of_le_of_lt (show ks.length ≤ 60 by omega) (by decide)
      · rw [upd_same, List.map_append]
        rfl
      · rcases List.mem_append.mp z with z | z
        · exact hn x z
        · rw [List.mem_singleton.mp z]
          exact hn3
    · rintro H1 ⟨ks, k1, h1, hD2, hl, hn⟩
      refine .inl ⟨D1, _, rfl, .inl (.inl hD2), fun p hp => ?_⟩
      have s2 := same_new (o := .tup (ks.map numv)) hp
      exact k ks p _ (by rw [hl, eto]) hn (k1.trans (h1.kh s2)) (h1.same s2) (.inl (.inl upd_same))
end
end K32

namespace K32
open PySem L2 Cm
def spValue (K : PySem.W.Frag) : Sp := fun vs H Q _ => ∃ (h c : Addr), vs = [.ref h] ∧ Hand H h c ∧ ∀ (it : It5) (v : V) (H' : Hp), fitI .val it → Kh h H H' → Hand H' h c → Dp K H' v it.enc → Q v H'
section
variable {P : Program} {w : World} {K : PySem.W.Frag} {mg : Str → Option Value} {base : Heap}
abbrev s_l_value : Stmt := top 55
abbrev N_l_value : List Str := ["_law_hand_here", "_law_pick_here"]
theorem sc_l_value : FnScope N_l_value ["_law_hand_here"] (defScope s_l_value) := ⟨rfl, rfl, rfl, by decide +kernel, rfl, by decide +kernel, by decide +kernel⟩
theorem ok_l_value (c_l_draw : Cl P w K mg base 2 "_law_draw" spDraw) (c_l_number : Cl P w K mg base 4 "_law_number" spNumber) (D : At K mg "_law_value" s_l_value ["_law_hand_here"]) : Cl P w K mg base 5 "_law_value" (spValue K) := by
  refine cl_of D sc_l_value (fun vs H Q E h => ?_) fun f cdv A outer s H vs Q E hr h => ?_
  · obtain ⟨h, c, rfl, _⟩ := h
    rfl
  · obtain ⟨h, c, rfl, hh, k⟩ := h
    refine ⟨_, (pss_cons (ps_set (i := 1) sc_l_value.nd rfl (Or.inl rfl) (pe_c c_l_draw hr (by decide) (by rfl) (pa_cons (pv 0) (pa_cons pe_int pa_nil))))
      (pss_cons (ps_if (pt_cmpR op_lt (pv 1) pe_int (nomark _))
        (pss_one (ps_ret (pe_ix ix_tup (pe_tup (pa_cons (pe_tup (pa_cons pe_str pa_nil)) (pa_cons (pe_tup (pa_cons pe_str pa_nil)) (pa_cons (pe_tup (pa_cons pe_str pa_nil)) pa_nil)))) (pv 1) (fun _ _ => rfl))))
        pss_nil)
      (pss_one (ps_ret (pe_ix ix_tup (pe_tup (pa_cons (pe_c c_l_number hr (by decide) (by rfl) (pa_cons (pv 0) pa_nil)) (pa_cons (pe_op op_sub (pe_un un_neg pe_int) (pe_c c_l_draw hr (by decide) (by rfl) (pa_cons (pv 0) (pa_cons (pe_op op_pow pe_int pe_int) pa_nil)))) (pa_cons (pe_op op_sub (pe_op op_pow pe_int pe_int) (pe_c c_l_draw hr (by decide) (by rfl) (pa_cons (pv 0) (pa_cons pe_int pa_nil)))) pa_nil)))) (pe_op op_sub (pv 1) pe_int) (fun _ _ => rfl)))))), ?_⟩
    refine ⟨_, rfl, h, c, 6, rfl, hh, by decide, by decide, fun n H1 n0 n1 k1 h1 => ?_⟩
    obtain ⟨m, rfl⟩ : ∃ m : Nat, n = (m : Nat) := ⟨n.toNat, by omega⟩
    refine ⟨_, rfl, _, _, rfl, rfl, _, rfl, ?_⟩
    by_cases q : m < 3
    · have e : decide (((m : Nat) : Int) < 3) = true := decide_eq_true (by omega)
      show if decide (((m : Nat) : Int) < 3) = true then _ else _
      rw [e]
      refine iteT ⟨by show 1 ≤ sizeLine; decide, fun p1 hp1 => ⟨by show 1 ≤ sizeLine; decide, fun p2 hp2 => ⟨by show 1 ≤ sizeLine; decide, fun p3 hp3 => ⟨by show 3 ≤ sizeLine; decide, fun p hp => ?_⟩⟩⟩⟩
      have s1 := same_new (o := .tup [.str "true"]) hp1
      have s2 := same_new (o := .tup [.str "false"]) hp2
      have s3 := same_new (o := .tup [.str "none"]) hp3
      have s4 := same_new (o := .tup [.ref p1, .ref p2, .ref p3]) hp
      have sa := ((s1.trans s2).trans s3).trans s4
      have kk := k1.trans (h1.kh sa)
      have hh4 := h1.same sa
      match m, q with
      | 0, _ => exact ⟨_, rfl, p, _, _, _, rfl, rfl, .inl (.inl upd_same), rfl, k (.c "true") _ _ (show ("true" : Str) ∈ consW by decide +kernel) kk hh4 (.tup (.inl (.inl (s4 _ _ (s3 _ _ (s2 _ _ upd_same))))) (.cons (.str _) .nil))⟩
      | 1, _ => exact ⟨_, rfl, p, _, _, _, rfl, rfl, .inl (.inl upd_same), rfl, k (.c "false") _ _ (show ("false" : Str) ∈ consW by decide +kernel) kk hh4 (.tup (.inl (.inl (s4 _ _ (s3 _ _ upd_same)))) (.cons (.str _) .nil))⟩
      | 2, _ => exact ⟨_, rfl, p, _, _, _, rfl, rfl, .inl (.inl upd_same), rfl, k (.c "none") _ _ (show ("none" : Str) ∈ consW by decide +kernel) kk hh4 (.tup (.inl (.inl (s4 _ _ upd_same))) (.cons (.str _) .nil))⟩
    · have e : decide (((m : Nat) : Int) < 3) = false := decide_eq_false (by omega)
      show if decide (((m : Nat) : Int) < 3) = true then _ else _
      rw [e]
      have e9 : ((10 : Int) ^ (9 : Int).toNat) = 1000000000 := by decide
      refine iteF ⟨_, rfl, h, c, rfl, h1, fun a H2 ha k2 h2 => ?_⟩
      refine ⟨_, rfl, _, rfl, _, _, rfl, rfl, ⟨by decide, by decide, by decide⟩, h, c, _, rfl, h2, by decide, by decide, fun b H3 b0 b1 k3 h3 => ?_⟩
      refine ⟨_, _, rfl, rfl, _, _, rfl, rfl, ⟨by decide, by decide, by decide⟩, _, rfl, h, c, 3, rfl, h3, by decide, by decide, fun d H4 d0 d1 k4 h4 => ?_⟩
      refine ⟨_, _, rfl, rfl, by show 3 ≤ sizeLine; decide, fun p hp => ?_⟩
      have sp := same_new (o := .tup [numv a, .int (-1 - b), .int ((10 : Int) ^ (9 : Int).toNat - d)]) hp
      have kk := ((((k1.trans k2).trans k3).trans k4)).trans (h4.kh sp)
      have hh5 := h4.same sp
      rw [e9] at b1
      match m, q, n1 with
      | 3, _, _ => exact ⟨_, rfl, _, _, rfl, rfl, p, _, _, _, rfl, rfl, .inl (.inl upd_same), rfl, k (.v ((a : Nat) : Int)) _ _ (show ((a : Nat) : Int).natAbs ≤ 1000000000 by omega) kk hh5 (.int _)⟩
      | 4, _, _ => exact ⟨_, rfl, _, _, rfl, rfl, p, _, _, _, rfl, rfl, .inl (.inl upd_same), rfl, k (.v (-1 - b)) _ _ (show (-1 - b).natAbs ≤ 1000000000 by omega) kk hh5 (.int _)⟩
      | 5, _, _ => exact ⟨_, rfl, _, _, rfl, rfl, p, _, _, _, rfl, rfl, .inl (.inl upd_same), rfl, k (.v ((10 : Int) ^ (9 : Int).toNat - d)) _ _ (show ((10 : Int) ^ (9 : Int).toNat - d).natAbs ≤ 1000000000 by rw [e9]; omega) kk hh5 (.int _)⟩
      | n + 6, _, n1 => exact absurd n1 (by omega)
end
end K32

namespace K32
open PySem L2 Cm
/-- what the law tells of a text: its first bad line, or the text itself -/
def readsD (x : Str) : PyData := if badL (splS 10 x) = 0 then .tuple [.int 0, .str x] else .tuple [.int (badL (splS 10 x) : Nat), .str ""]
def spReads (K : PySem.W.Frag) : Sp := fun vs H Q _ => ∃ x : Str, vs = [.str x] ∧ x.length ≤ 60000 ∧ ∀ v H', Same H H' → Dp K H' v (readsD x) → Q v H'
section
variable {P : Program} {w : World} {K : PySem.W.Frag} {mg : Str → Option Value} {base : Heap} {C CE : Addr}
abbrev s_l_reads : Stmt := top 66
abbrev N_l_reads : List Str := ["_law_text", "_law_code", "e"]
theorem sc_l_reads : FnScope N_l_reads ["_law_text"] (defScope s_l_reads) := ⟨rfl, rfl, rfl, by decide +kernel, rfl, by decide +kernel, by decide +kernel⟩
theorem ok_l_reads (M : Mk P w K mg base CE "BadListing" ["line"]) (te : PySem.W.exmOne K (.ref CE) (.ref CE) = some true) (c_p_read_jumps : ClX P w K mg base 5 "read_jumps" (spRead K C CE)) (c_p_jump_text : Cl P w K mg base 3 "jump_text" (spJText K C)) (D : At K mg "_law_reads" s_l_reads ["_law_text"]) : Cl P w K mg base 6 "_law_reads" (spReads K) := by
  refine cl_of (k := 5) D sc_l_reads (fun vs H Q E h => ?_) fun f cdv A outer s H vs Q E hr h => ?_
  · obtain ⟨x, rfl, _⟩ := h
    rfl
  · obtain ⟨x, rfl, hx, k⟩ := h
    refine ⟨_, (pss_mid (ps_try_held (i := 2) (tb := fun W => tAsg (tCallS (spRead K C CE) (WE W) (tCons (tVar 0) tNil)) (gName 1))
          (ts := fun a => tRet (tTup (tCons (tFldX K "line" (tVar 2)) (tCons (tC (.str "")) tNil)))) rfl rfl sc_l_reads.nd rfl rfl ⟨rfl, by decide, .inl M.g⟩ rfl
        (fun W pn xe tk _ => pss_one (ps_set (i := 1) sc_l_reads.nd rfl (Or.inl rfl) (by exact (pe_cS c_p_read_jumps hr (by decide) (by rfl) tk (pa_cons (pv 0) pa_nil)))))
        (fun a pn => pss_one (ps_ret (by exact (pe_tup (pa_cons (pe_fldX (pv 2)) (pa_cons pe_str pa_nil)))))))
      (pss_one (ps_ret (pe_tup (pa_cons pe_int (pa_cons (pe_c c_p_jump_text hr (by decide) (by rfl) (pa_cons (pv 1) pa_nil)) pa_nil)))))), ?_⟩
    unfold readsD at k
    refine ⟨fun σ' H' => ∃ (o : Addr) (c : Lst), σ' = [some (.str x), some (.ref o), none] ∧ Same H H' ∧ badL (splS 10 x) = 0 ∧ Ob K H' C namesJ o c.enc ∧ c.ok ∧ c.txt = x, ?_, ?_⟩
    · refine ⟨_, rfl, x, rfl, hx, fun e o c H' s' ob ok tx _ => ⟨o, c, rfl, s', e, ob, ok, tx⟩, fun ne d H' s' hd' => ⟨te, fun a ha => ?_⟩⟩
      have s2 := same_new (o := ExH a (.ref CE) (some d)) ha
      refine ⟨_, rfl, a, CE, d, _, _, rfl, M.xf, M.no _ (by decide +kernel), upd_same, s2 _ _ hd', rfl, by show 2 ≤ sizeLine; decide, fun p hp => ?_⟩
      rw [if_neg ne] at k
      exact k _ _ ((s'.trans s2).trans (same_new hp)) (.tup (.inl (.inl upd_same)) (.cons (.int _) (.cons (.str _) .nil)))
    · rintro σ' H' ⟨o, c, rfl, s', e, ob, ok, tx⟩
      rw [if_pos e] at k
      refine ⟨_, rfl, o, c, rfl, ob, ok, fun H2 s2 => ⟨by show 2 ≤ sizeLine; decide, fun p hp => ?_⟩⟩
      rw [tx]
      exact k _ _ ((s'.trans s2).trans (same_new hp)) (.tup (.inl (.inl upd_same)) (.cons (.int _) (.cons (.str _) .nil)))
end
end K32

namespace K32
open PySem L2 Cm
/-! ### what a good line is -/
def itemsOk (ss : List Sh) (ws : List Str) : Bool := match items ss ws with
  | some (_, []) => true
  | _ => false
theorem rowOf_some (w : Str) (ws : List Str) : (rowOf w ws).isSome = match shapeOf w with
    | none => false
    | some ss => itemsOk ss ws := by
  unfold rowOf itemsOk
  cases shapeOf w with
  | none => rfl
  | some ss =>
    show (match items ss ws with
      | some (is, []) => some (⟨w, is⟩ : Rw)
      | _ => none).isSome = match items ss ws with
      | some (_, []) => true
      | _ => false
    cases e : items ss ws with
    | none => rfl
    | some p =>
      obtain ⟨is, l⟩ := p
      cases l <;> rfl
theorem ok_nil (ws : List Str) : itemsOk [] ws = ws.isEmpty := by cases ws <;> rfl
theorem ok_num0 (ss : List Sh) : itemsOk (.num :: ss) [] = false := rfl
theorem ok_num (ss : List Sh) (w : Str) (ws : List Str) : itemsOk (.num :: ss) (w :: ws) = ((numOf w).isSome && itemsOk ss ws) := by
  have e : items (.num :: ss) (w :: ws) = match (numOf w).map It5.n with
    | none => none
    | some i => (items ss ws).map fun p => (i :: p.1, p.2) := rfl
  unfold itemsOk
  rw [e]
  cases numOf w with
  | none => rfl
  | some n =>
    show (match (items ss ws).map fun p => (It5.n n :: p.1, p.2) with
      | some (_, []) => true
      | _ => false) = (true && _)
    rw [Bool.true_and]
    cases items ss ws with
    | none => rfl
    | some p =>
      obtain ⟨is, l⟩ := p
      cases l <;> rfl
theorem ok_op (ss : List Sh) (w : Str) (ws : List Str) : itemsOk (.op :: ss) (w :: ws) = (decide (w ∈ opsW) && itemsOk ss ws) := by
  have e : items (.op :: ss) (w :: ws) = match (if w ∈ opsW then some (It5.o w) else none) with
    | none => none
    | some i => (items ss ws).map fun p => (i :: p.1, p.2) := rfl
  unfold itemsOk
  rw [e]
  by_cases h : w ∈ opsW
  · rw [if_pos h, decide_eq_true h, Bool.true_and]
    show (match (items ss ws).map fun p => (It5.o w :: p.1, p.2) with
      | some (_, []) => true
      | _ => false) = _
    cases items ss ws with
    | none => rfl
    | some p =>
      obtain ⟨is, l⟩ := p
      cases l <;> rfl
  · rw [if_neg h, decide_eq_false h]
    rfl
theorem ok_val (w : Str) (ws : List Str) : itemsOk [.val] (w :: ws) = ((itemOf .val w).isSome && ws.isEmpty) := by
  have e : items [.val] (w :: ws) = match itemOf .val w with
    | none => none
    | some i => (items [] ws).map fun p => (i :: p.1, p.2) := rfl
  unfold itemsOk
  rw [e]
  cases itemOf .val w with
  | none => rfl
  | some i => cases ws <;> rfl
theorem ok_cells (ws : List Str) : itemsOk [.cells] ws = (numsW ws).isSome := by
  unfold itemsOk
  rw [items_cells]
  cases numsW ws <;> rfl
theorem numsW_cons (w : Str) (ws : List Str) : (numsW (w :: ws)).isSome = ((numOf w).isSome && (numsW ws).isSome) := by
  have e : numsW (w :: ws) = match numOf w, numsW ws with
    | some n, some ns => some (n :: ns)
    | _, _ => none := rfl
  rw [e]
  cases numOf w with
  | none => rfl
  | some n => cases numsW ws <;> rfl
theorem ok_nums : ∀ (k : Nat) (ws : List Str), itemsOk (List.replicate k .num) ws = ((numsW ws).isSome && decide (ws.length = k))
  | 0, [] => rfl
  | 0, w :: ws => by
    show itemsOk [] (w :: ws) = _
    rw [ok_nil, decide_eq_false (show ¬ (w :: ws).length = 0 by simp), Bool.and_false]
    rfl
  | k + 1, [] => rfl
  | k + 1, w :: ws => by
    rw [List.replicate_succ, ok_num, ok_nums k ws, numsW_cons, Bool.and_assoc]
    congr 2
    rw [List.length_cons, Bool.eq_iff_iff, decide_eq_true_eq, decide_eq_true_eq]
    omega
theorem ok_numc : ∀ (k : Nat) (ws : List Str), itemsOk (List.replicate k .num ++ [.cells]) ws = ((numsW ws).isSome && decide (k ≤ ws.length))
  | 0, ws => by
    show itemsOk [.cells] ws = _
    rw [ok_cells, decide_eq_true (Nat.zero_le _), Bool.and_true]
  | k + 1, [] => rfl
  | k + 1, w :: ws => by
    show itemsOk (.num :: (List.replicate k .num ++ [.cells])) (w :: ws) = _
    rw [ok_num, ok_numc k ws, numsW_cons, Bool.and_assoc]
    congr 2
    rw [List.length_cons, Bool.eq_iff_iff, decide_eq_true_eq, decide_eq_true_eq]
    omega
theorem ok_value (ws : List Str) : itemsOk [.num, .val] ws = match ws with
    | [a, b] => (numOf a).isSome && (itemOf .val b).isSome
    | _ => false := by
  match ws with
  | [] => rfl
  | [a] => rw [ok_num]; show (_ && itemsOk [.val] []) = _; rw [show itemsOk [.val] [] = false from rfl, Bool.and_false]
  | [a, b] => rw [ok_num, ok_val]; show (_ && (_ && true)) = _; rw [Bool.and_true]
  | a :: b :: c :: r => rw [ok_num, ok_val]; show (_ && (_ && false)) = _; rw [Bool.and_false, Bool.and_false]
theorem ok_oper (ws : List Str) : itemsOk [.num, .op, .cells] ws = match ws with
    | a :: b :: r => decide (b ∈ opsW) && (numsW (a :: r)).isSome
    | _ => false := by
  match ws with
  | [] => rfl
  | [a] => rw [ok_num]; show (_ && itemsOk [.op, .cells] []) = _; rw [show itemsOk [.op, .cells] [] = false from rfl, Bool.and_false]
  | a :: b :: r =>
    rw [ok_num, ok_op, ok_cells]
    show _ = (decide (b ∈ opsW) && (numsW (a :: r)).isSome)
    rw [numsW_cons]
    cases (numOf a).isSome <;> cases decide (b ∈ opsW) <;> rfl
def leastL : List (Str × Nat) := [("fun", 2), ("call", 1), ("copy", 2), ("show", 2), ("unless", 2), ("mark", 0), ("wind", 3), ("ask", 1), ("keep", 1), ("once", 1), ("save", 1), ("jump", 1), ("back", 1), ("take", 1)]
abbrev leastK : List (Key × V) := [(Sum.inr "fun", V.int 2), (Sum.inr "call", V.int 1), (Sum.inr "copy", V.int 2), (Sum.inr "show", V.int 2), (Sum.inr "unless", V.int 2), (Sum.inr "mark", V.int 0), (Sum.inr "wind", V.int 3), (Sum.inr "ask", V.int 1), (Sum.inr "keep", V.int 1), (Sum.inr "once", V.int 1), (Sum.inr "save", V.int 1), (Sum.inr "jump", V.int 1), (Sum.inr "back", V.int 1), (Sum.inr "take", V.int 1)]
theorem least_eq : leastK = leastL.map fun p => (Sum.inr p.1, V.int (p.2 : Nat)) := rfl
theorem valV_map2 (w : Str) : ∀ l : List (Str × Nat), valV (l.map fun p => ((Sum.inr p.1 : Key), V.int (p.2 : Nat))) (Sum.inr w) = (l.find? fun p => decide (p.1 = w)).map fun p => V.int (p.2 : Nat)
  | [] => rfl
  | p :: l => by
    rw [List.map_cons, List.find?_cons]
    by_cases h : p.1 = w
    · rw [valV_pos (p := ((Sum.inr p.1 : Key), V.int (p.2 : Nat))) (by rw [h]), decide_eq_true h]
      rfl
    · rw [valV_neg (p := ((Sum.inr p.1 : Key), V.int (p.2 : Nat))) (fun z => h (Sum.inr.inj z)), decide_eq_false h]
      exact valV_map2 w l
theorem merge_least : mergeK [] leastK = leastK := by decide +kernel
theorem least_val (w : Str) : valV (mergeK [] leastK) (Sum.inr w) = (leastL.find? fun p => decide (p.1 = w)).map fun p => V.int (p.2 : Nat) := by
  rw [merge_least, least_eq, valV_map2]
theorem shape_least : ∀ p ∈ leastL, shapeOf p.1 = some (List.replicate p.2 .num ++ if p.1 ∈ (["fun", "call"] : List Str) then [.cells] else []) := by decide +kernel
theorem shape_none {w : Str} (h1 : w ≠ "value") (h2 : w ≠ "op") (h3 : w ≠ "rec") (h : leastL.find? (fun p => decide (p.1 = w)) = none) : shapeOf w = none := by
  refine shape_out fun m => ?_
  have h' : ∀ p ∈ leastL, ¬ p.1 = w := fun p mp z => by
    have := List.find?_eq_none.mp h p mp
    exact this (decide_eq_true z)
  have key : ∀ x ∈ (shapesL.map fun r : Str × List Sh => r.1), x = ("value" : Str) ∨ x = ("op" : Str) ∨ x = ("rec" : Str) ∨ ∃ p ∈ leastL, p.1 = x := by decide +kernel
  rcases key w m with e | e | e | ⟨p, mp, e⟩
  · exact h1 e
  · exact h2 e
  · exact h3 e
  · exact h' p mp e
theorem line_rest {w : Str} (ws : List Str) (h1 : w ≠ "value") (h2 : w ≠ "op") (h3 : w ≠ "rec") : (rowOf w ws).isSome = match leastL.find? fun p => decide (p.1 = w) with
    | none => false
    | some p => (numsW ws).isSome && if w ∈ (["fun", "call"] : List Str) then decide (p.2 ≤ ws.length) else decide (ws.length = p.2) := by
  rw [rowOf_some]
  cases e : leastL.find? fun p => decide (p.1 = w) with
  | none => rw [shape_none h1 h2 h3 e]
  | some p =>
    have mp := List.mem_of_find?_eq_some e
    have ew : p.1 = w := of_decide_eq_true (by simpa using List.find?_some e)
    have es := shape_least p mp
    rw [ew] at es
    rw [es]
    by_cases q : w ∈ (["fun", "call"] : List Str)
    · show itemsOk _ ws = (_ && if _ then _ else _)
      rw [if_pos q, if_pos q, ok_numc]
    · show itemsOk _ ws = (_ && if _ then _ else _)
      rw [if_neg q, if_neg q, List.append_nil, ok_nums]
theorem sok_iff {x : Str} : sok x ↔ ∀ c ∈ cs x, c < 0x110000 := by
  show x.cps.all (· < 0x110000) = true ↔ _
  rw [Array.all_eq_true']
  constructor
  · intro h c m
    have := h c (Array.mem_toList_iff.mp m)
    exact of_decide_eq_true this
  · intro h c m
    exact decide_eq_true (h c (Array.mem_toList_iff.mpr m))
theorem joinL_mem {y : List Nat} {d : Nat} : ∀ {ps : List (List Nat)} {p : List Nat}, p ∈ ps → d ∈ p → d ∈ TL.joinL y ps
  | [q], p, m, h => by
    rw [List.mem_singleton.mp m] at h
    exact h
  | q :: r :: ps, p, m, h => by
    rw [joinL_cons]
    rcases List.mem_cons.mp m with rfl | m
    · exact List.mem_append.mpr (.inl h)
    · exact List.mem_append.mpr (.inr (List.mem_append.mpr (.inr (joinL_mem m h))))
theorem sok_split {c : Nat} {x : Str} (h : sok x) : ∀ p ∈ splS c x, sok p := fun p m => by
  obtain ⟨l, ml, rfl⟩ := List.mem_map.mp m
  refine sok_iff.mpr fun d md => ?_
  rw [cs_ofL] at md
  have : d ∈ TL.joinL [c] (spL c (cs x)) := joinL_mem ml md
  rw [joinL_spL] at this
  exact sok_iff.mp h d this
end K32

namespace K32
open PySem L2 Cm
/-- a text that is not too long, of signs that there are -/
def spGood : Sp := fun vs H Q _ => ∃ x : Str, vs = [.str x] ∧ x.length ≤ 60000 ∧ sok x ∧ ∀ H', Same H H' → Q (.bl (lineOf x).isSome) H'
def valueOk : List Str → Bool
  | [a, b] => (numOf a).isSome && (itemOf .val b).isSome
  | _ => false
def operOk : List Str → Bool
  | a :: b :: r => decide (b ∈ opsW) && (numsW (a :: r)).isSome
  | _ => false
theorem num_canon (a : Str) : (numOf a).isSome = canon 5 (cs a) := by
  unfold numOf
  cases canon 5 (cs a) <;> rfl
theorem row_value (ws : List Str) : (rowOf "value" ws).isSome = valueOk ws := (rowOf_some _ ws).trans ((ok_value ws).trans (by unfold valueOk; rfl))
theorem row_oper (ws : List Str) : (rowOf "op" ws).isSome = operOk ws := (rowOf_some _ ws).trans ((ok_oper ws).trans (by unfold operOk; rfl))
theorem row_rec (ws : List Str) : (rowOf "rec" ws).isSome = recOk ws := (rowOf_some _ ws).trans rfl
def opsL : List Str := ["+", "-", "*", "quot", "rem", "<", "=", "same?", "pair", "left", "right", "left!", "right!", "pair?", "none?", "rest?", "fun?"]
theorem ops_same (w : Str) : decide (w ∈ opsL) = decide (w ∈ opsW) := by
  have h1 : ∀ x ∈ opsL, x ∈ opsW := by decide +kernel
  have h2 : ∀ x ∈ opsW, x ∈ opsL := by decide +kernel
  rw [Bool.eq_iff_iff, decide_eq_true_eq, decide_eq_true_eq]
  exact ⟨h1 w, h2 w⟩
section
variable {P : Program} {w : World} {K : PySem.W.Frag} {mg : Str → Option Value} {base : Heap}
abbrev s_l_good_line : Stmt := top 63
abbrev N_l_good_line : List Str := ["_law_line_here", "_law_words", "_law_word", "_law_rest", "_law_ops", "_law_least"]
theorem sc_l_good_line : FnScope N_l_good_line ["_law_line_here"] (defScope s_l_good_line) := ⟨rfl, rfl, rfl, by decide +kernel, rfl, by decide +kernel, by decide +kernel⟩
theorem ok_l_good_line (T : Txt mg) (c_l_is_number : Cl P w K mg base 1 "_law_is_number" spLNum) (c_l_are_numbers : Cl P w K mg base 2 "_law_are_numbers" (spLNums K)) (c_l_is_value : Cl P w K mg base 2 "_law_is_value" spLVal) (c_l_good_rec : Cl P w K mg base 3 "_law_good_rec" (spLRec K))
    (D : At K mg "_law_good_line" s_l_good_line ["_law_line_here"]) : Cl P w K mg base 4 "_law_good_line" spGood := by
  refine cl_of D sc_l_good_line (fun vs H Q E h => ?_) fun f cdv A outer s H vs Q E hr h => ?_
  · obtain ⟨x, rfl, _⟩ := h
    rfl
  · obtain ⟨x, rfl, hx, so, k⟩ := h
    have hu := hu_of hr
    refine ⟨_, (pss_cons (ps_set (i := 1) sc_l_good_line.nd rfl (Or.inl rfl) (pe_split (pv 0) pe_str))
      (pss_cons (ps_set (i := 2) sc_l_good_line.nd rfl (Or.inl rfl) (pe_ix ix_list (pv 1) pe_int (fun _ _ => rfl)))
      (pss_cons (ps_set (i := 3) sc_l_good_line.nd rfl (Or.inl rfl) (pe_slice sl_list (pv 1) (po_some pe_int) po_none))
      (pss_cons (ps_if (pt_cmpR op_eq (pv 2) pe_str (nomark _))
        (pss_one (ps_ret (pe_and (pe_cmpR op_eq (pe_callB call_len_seq (by rfl) T.len (by decide +kernel) (pa_cons (pv 3) pa_nil)) pe_int (nomark _)) (pe_and (pe_c c_l_is_number hr (by decide) (by rfl) (pa_cons (pe_ix ix_list (pv 3) pe_int (fun _ _ => rfl)) (pa_cons pe_int pa_nil))) (pe_one (pe_c c_l_is_value hr (by decide) (by rfl) (pa_cons (pe_ix ix_list (pv 3) pe_int (fun _ _ => rfl)) pa_nil)))))))
        pss_nil)
      (pss_cons (ps_if (pt_cmpR op_eq (pv 2) pe_str (nomark _))
        (pss_cons (ps_set (i := 4) sc_l_good_line.nd rfl (Or.inl rfl) (pe_tup (pa_cons pe_str (pa_cons pe_str (pa_cons pe_str (pa_cons pe_str (pa_cons pe_str (pa_cons pe_str (pa_cons pe_str (pa_cons pe_str (pa_cons pe_str (pa_cons pe_str (pa_cons pe_str (pa_cons pe_str (pa_cons pe_str (pa_cons pe_str (pa_cons pe_str (pa_cons pe_str (pa_cons pe_str pa_nil)))))))))))))))))))
        (pss_one (ps_ret (pe_and (pe_cmpR op_ge (pe_callB call_len_seq (by rfl) T.len (by decide +kernel) (pa_cons (pv 3) pa_nil)) pe_int (nomark _)) (pe_and (pe_cmpR op_in_seq (pe_ix ix_list (pv 3) pe_int (fun _ _ => rfl)) (pv 4) (by rfl)) (pe_one (pe_c c_l_are_numbers hr (by decide) (by rfl) (pa_cons (pe_op op_cat (pe_slice sl_list (pv 3) po_none (po_some pe_int)) (pe_slice sl_list (pv 3) (po_some pe_int) po_none)) pa_nil))))))))
        pss_nil)
      (pss_cons (ps_if (pt_cmpR op_eq (pv 2) pe_str (nomark _))
        (pss_one (ps_ret (pe_c c_l_good_rec hr (by decide) (by rfl) (pa_cons (pv 3) pa_nil))))
        pss_nil)
      (pss_cons (ps_set (i := 5) sc_l_good_line.nd rfl (Or.inl rfl) (pe_disp (pps_cons pe_str pe_int (pps_cons pe_str pe_int (pps_cons pe_str pe_int (pps_cons pe_str pe_int (pps_cons pe_str pe_int (pps_cons pe_str pe_int (pps_cons pe_str pe_int (pps_cons pe_str pe_int (pps_cons pe_str pe_int (pps_cons pe_str pe_int (pps_cons pe_str pe_int (pps_cons pe_str pe_int (pps_cons pe_str pe_int (pps_cons pe_str pe_int pps_nil)))))))))))))) (by rfl) (by rfl) (fun z => by cases z) (by decide)))
      (pss_cons (ps_if (PW.pt (pw_or (pt_cmp (pc_dnotin hu (pv 2) (pv 5))) (pw_or1 (pt_not (pt_val (pe_c c_l_are_numbers hr (by decide) (by rfl) (pa_cons (pv 3) pa_nil)))))))
        (pss_one (ps_ret pe_bl))
        pss_nil)
      (pss_one (ps_ret (pe_ifExp (pt_inW (pv 2) (.cons (.cons .nil)) (show 2 ≤ sizeLine by decide) (by rfl)) (pe_cmpR op_ge (pe_callB call_len_seq (by rfl) T.len (by decide +kernel) (pa_cons (pv 3) pa_nil)) (pe_dget hu (pv 5) (pv 2) (fun _ _ => rfl)) (nomark _)) (pe_cmpR op_eq (pe_callB call_len_seq (by rfl) T.len (by decide +kernel) (pa_cons (pv 3) pa_nil)) (pe_dget hu (pv 5) (pv 2) (fun _ _ => rfl)) (nomark _))))))))))))), ?_⟩
    have hz : x.length + 2 ≤ sizeLine := Nat.le_trans (show x.length + 2 ≤ 60002 by omega) (by decide)
    have hwd : WdL (wordOf x :: restOf x) := by
      rw [← cut_words]
      refine ⟨by have := splS_len 32 x; omega, fun y m => ⟨Nat.le_trans (splS_each m) hx, sok_split so y m⟩⟩
    have k' : ∀ H', Same H H' → Q (.bl (rowOf (wordOf x) (restOf x)).isSome) H' := k
    clear k
    refine ⟨_, rfl, ⟨_, rfl⟩, _, _, rfl, rfl, by decide +kernel, hz, fun W hW => ?_⟩
    rw [split_eq sp32 (by decide), cut_words]
    have sW := same_new (o := .lst ((wordOf x :: restOf x).map V.str)) hW
    generalize wordOf x = wd at *
    generalize restOf x = rs at *
    have hwr : WdL rs := ⟨by have := hwd.1; rw [List.length_cons] at this; omega, fun y m => hwd.2 y (List.mem_cons_of_mem _ m)⟩
    have at0 : atI ((wd :: rs).map V.str) 0 = some (.str wd) := atI_nat (j := 0) rfl
    refine ⟨_, rfl, W, _, _, _, rfl, rfl, .inl (.inl upd_same), at0, _, rfl, _, rfl, W, _, rfl, .inl (.inl upd_same), fun R hR => ?_⟩
    have cut1 : cutV ((wd :: rs).map V.str) (some (1 : Int)) Option.none = rs.map V.str := by
      rw [show (1 : Int) = ((1 : Nat) : Int) from rfl, cut_from (by rw [List.length_map, List.length_cons]; omega)]
      rfl
    rw [cut1]
    have sR := same_new (o := .lst (rs.map V.str)) hR
    have sA := sW.trans sR
    have hRs : (upd (upd H W (.lst ((wd :: rs).map V.str))) R (.lst (rs.map V.str))) R = some (.lst (rs.map V.str)) := upd_same
    generalize upd (upd H W (.lst ((wd :: rs).map V.str))) R (.lst (rs.map V.str)) = H1 at *
    have kk : ∀ H', Same H1 H' → Q (.bl (rowOf wd rs).isSome) H' := fun H' s => k' H' (sA.trans s)
    have hrl : (rs.map V.str).length = rs.length := List.length_map _
    refine ⟨_, rfl, rfl, _, rfl, ?_⟩
    rw [decS]
    by_cases c1 : wd = "value"
    · rw [decide_eq_true c1]
      subst c1
      rw [row_value] at kk
      refine iteT ⟨_, rfl, R, _, rfl, .inl (.inl (.inl hRs)), rfl, _, rfl, ?_⟩
      show if decide (V.int ((rs.map V.str).length : Nat) = V.int 2) = true then _ else _
      rw [hrl]
      match rs, hRs, hwr, kk with
      | [a, b], hRs, hwr, kk =>
        refine iteT ⟨_, rfl, R, _, _, _, rfl, rfl, .inl (.inl hRs), atI_nat (j := 0) rfl, a, 5, rfl, (hwr.2 a List.mem_cons_self).1, by decide, fun H2 s2 => ⟨_, rfl, ?_⟩⟩
        have k2 := kk H2 s2
        have ev : valueOk [a, b] = ((numOf a).isSome && (itemOf .val b).isSome) := rfl
        rw [ev, num_canon] at k2
        cases c : canon 5 (cs a) with
        | false =>
          rw [c] at k2
          exact iteF k2
        | true =>
          rw [c, Bool.true_and] at k2
          refine iteT ⟨_, rfl, R, _, _, _, rfl, rfl, .inl (.inl (s2 _ _ hRs)), atI_nat (j := 1) rfl, b, rfl, (hwr.2 b (List.mem_cons_of_mem _ List.mem_cons_self)).1, fun H3 s3 => ?_⟩
          have k3 := kk H3 (s2.trans s3)
          rw [ev, num_canon, c, Bool.true_and] at k3
          exact k3
      | [], hRs, hwr, kk => exact iteF (kk _ (Same.refl _))
      | [a], hRs, hwr, kk => exact iteF (kk _ (Same.refl _))
      | a :: b :: c :: r, hRs, hwr, kk =>
        rw [decide_eq_false (fun z => by injection z with z; simp at z; omega)]
        exact iteF (kk _ (Same.refl _))
    rw [decide_eq_false c1]
    refine iteF ⟨_, rfl, rfl, _, rfl, ?_⟩
    rw [decS]
    by_cases c2 : wd = "op"
    · rw [decide_eq_true c2]
      subst c2
      rw [row_oper] at kk
      refine iteT ⟨by show 17 ≤ sizeLine; decide, fun p hp => ?_⟩
      have sp := same_new (o := .tup (opsL.map V.str)) hp
      refine ⟨_, rfl, R, _, rfl, .inl (.inl (.inl (sp _ _ hRs))), _, _, rfl, rfl, _, rfl, ?_⟩
      show if decide ((2 : Int) ≤ ((rs.map V.str).length : Nat)) = true then _ else _
      rw [hrl]
      match rs, hRs, hwr, kk with
      | [], hRs, hwr, kk => exact iteF (kk _ sp)
      | [a], hRs, hwr, kk => exact iteF (kk _ sp)
      | a :: b :: r, hRs, hwr, kk =>
        rw [decide_eq_true (show (2 : Int) ≤ ((a :: b :: r).length : Nat) by simp only [List.length_cons]; omega)]
        have ev : operOk (a :: b :: r) = (decide (b ∈ opsW) && (numsW (a :: r)).isSome) := rfl
        rw [ev] at kk
        refine iteT ⟨_, rfl, R, _, _, _, rfl, rfl, .inl (.inl (sp _ _ hRs)), atI_nat (j := 1) rfl, _, rfl, p, opsL.map V.str, rfl, .inr (.inl (.inl upd_same)), rfl, rfl, _, rfl, ?_⟩
        show if inV (.str b) (opsL.map V.str) = true then _ else _
        rw [in_words, ops_same]
        cases c : decide (b ∈ opsW) with
        | false =>
          rw [c] at kk
          exact iteF (kk _ sp)
        | true =>
          rw [c, Bool.true_and] at kk
          refine iteT ⟨_, rfl, _, rfl, R, _, rfl, .inl (.inl (sp _ _ hRs)), fun A1 hA1 => ?_⟩
          rw [show (1 : Int) = ((1 : Nat) : Int) from rfl, cut_to (by rw [List.length_map, List.length_cons]; omega)]
          have sa := same_new (o := .lst (((a :: b :: r).map V.str).take 1)) hA1
          refine ⟨_, rfl, _, rfl, R, _, rfl, .inl (.inl (sa _ _ (sp _ _ hRs))), fun A2 hA2 => ?_⟩
          rw [show (2 : Int) = ((2 : Nat) : Int) from rfl, cut_from (by rw [List.length_map, List.length_cons, List.length_cons]; omega)]
          have sb := same_new (o := .lst (((a :: b :: r).map V.str).drop 2)) hA2
          have hrn := hwr.1
          rw [List.length_cons, List.length_cons] at hrn
          refine ⟨A1, A2, _, _, rfl, rfl, sb _ _ upd_same, upd_same, ?_, fun A3 hA3 => ?_⟩
          · refine Nat.le_trans (show _ ≤ 100000 from ?_) (by decide)
            show (V.str a :: []).length + (r.map V.str).length ≤ 100000
            rw [List.length_map, List.length_cons, List.length_nil]
            omega
          · have sc := same_new (o := .lst (((a :: b :: r).map V.str).take 1 ++ ((a :: b :: r).map V.str).drop 2)) hA3
            have e3 : ((a :: b :: r).map V.str).take 1 ++ ((a :: b :: r).map V.str).drop 2 = (a :: r).map V.str := rfl
            rw [e3] at sc ⊢
            refine ⟨A3, a :: r, rfl, .inl (.inl upd_same), ⟨by rw [List.length_cons]; omega, fun y m => hwr.2 y ?_⟩, fun H4 s4 => ?_⟩
            · rcases List.mem_cons.mp m with rfl | m
              · exact List.mem_cons_self
              · exact List.mem_cons_of_mem _ (List.mem_cons_of_mem _ m)
            · exact kk _ ((((sp.trans sa).trans sb).trans sc).trans s4)
    rw [decide_eq_false c2]
    refine iteF ⟨_, rfl, rfl, _, rfl, ?_⟩
    rw [decS]
    by_cases c3 : wd = "rec"
    · rw [decide_eq_true c3]
      subst c3
      rw [row_rec] at kk
      exact iteT ⟨_, rfl, R, rs, rfl, .inl (.inl hRs), hwr, kk⟩
    rw [decide_eq_false c3]
    rw [line_rest rs c1 c2 c3] at kk
    refine iteF ?_
    intro p hp
    have sp := same_new (o := .dK []) hp
    refine ⟨upd_same, leastK, rfl, by decide, ?_⟩
    have eu : upd (upd H1 p (.dK [])) p (.dK (mergeK [] leastK)) = upd H1 p (.dK (mergeK [] leastK)) := upd_upd
    rw [eu]
    have s2 := same_new (o := .dK (mergeK [] leastK)) hp
    have hR2 := s2 _ _ hRs
    have hgg : ∀ H' : Hp, H' p = some (.dK (mergeK [] leastK)) → DGet H' p (.str wd) ((leastL.find? fun p => decide (p.1 = wd)).map fun p => V.int (p.2 : Nat)) := fun H' e => by
      rw [← least_val]
      exact DGet.k (k := Sum.inr wd) e
    have hpp : upd H1 p (.dK (mergeK [] leastK)) p = some (.dK (mergeK [] leastK)) := upd_same
    have kk2 : ∀ H', Same (upd H1 p (.dK (mergeK [] leastK))) H' → Q _ H' := fun H' s => kk H' (s2.trans s)
    clear kk
    generalize upd H1 p (.dK (mergeK [] leastK)) = H2 at *
    cases ef : leastL.find? fun p => decide (p.1 = wd) with
    | none =>
      rw [ef] at kk2 hgg
      have hg := hgg _ hpp
      refine ⟨_, rfl, _, rfl, p, _, rfl, hg, _, rfl, ?_⟩
      exact iteT (kk2 _ (Same.refl _))
    | some pr =>
      rw [ef] at kk2 hgg
      have hg := hgg _ hpp
      refine ⟨_, rfl, _, rfl, p, _, rfl, hg, _, rfl, ?_⟩
      refine iteF ⟨_, rfl, R, rs, rfl, .inl (.inl hR2), hwr, fun H3 s3 => ⟨_, rfl, ?_⟩⟩
      have k3 := fun H' s => kk2 H' (s3.trans s)
      cases en : (numsW rs).isSome with
      | false =>
        rw [en] at k3
        exact iteT (k3 _ (Same.refl _))
      | true =>
        rw [en] at k3
        refine iteF ⟨_, rfl, rfl, fun H4 s4 => ?_⟩
        have hg4 := hgg _ (s4 _ _ (s3 _ _ hpp))
        have hR4 := s4 _ _ (s3 _ _ hR2)
        refine in_strs (l := ["fun", "call"]) (fun m => ?_) (fun m => ?_)
        · refine ⟨_, rfl, R, _, rfl, .inl (.inl (.inl hR4)), _, rfl, _, rfl, p, _, rfl, hg4, _, _, rfl, rfl, ?_⟩
          have k4 : Q (.bl (true && if wd ∈ (["fun", "call"] : List Str) then decide (pr.2 ≤ rs.length) else decide (rs.length = pr.2))) H4 := k3 _ s4
          rw [Bool.true_and, if_pos m] at k4
          have e : decide (((pr.2 : Nat) : Int) ≤ ((rs.map V.str).length : Nat)) = decide (pr.2 ≤ rs.length) := by
            rw [hrl, Bool.eq_iff_iff, decide_eq_true_eq, decide_eq_true_eq]
            omega
          show Q (.bl (decide (((pr.2 : Nat) : Int) ≤ ((rs.map V.str).length : Nat)))) H4
          rw [e]
          exact k4
        · refine ⟨_, rfl, R, _, rfl, .inl (.inl (.inl hR4)), _, rfl, _, rfl, p, _, rfl, hg4, rfl, ?_⟩
          have k4 : Q (.bl (true && if wd ∈ (["fun", "call"] : List Str) then decide (pr.2 ≤ rs.length) else decide (rs.length = pr.2))) H4 := k3 _ s4
          rw [Bool.true_and, if_neg m] at k4
          have e : decide (V.int ((rs.map V.str).length : Nat) = V.int (pr.2 : Nat)) = decide (rs.length = pr.2) := by
            rw [hrl, Bool.eq_iff_iff, decide_eq_true_eq, decide_eq_true_eq]
            constructor
            · intro z
              injection z with z
              omega
            · intro z
              rw [z]
          show Q (.bl (decide (V.int ((rs.map V.str).length : Nat) = V.int (pr.2 : Nat)))) H4
          rw [e]
          exact k4
end
end K32

namespace K32
open PySem L2 Cm
def spBadL : Sp := fun vs H Q _ => ∃ x : Str, vs = [.str x] ∧ x.length ≤ 60000 ∧ sok x ∧ ∀ H', Same H H' → Q (.int (badL (splS 10 x) : Nat)) H'
theorem bad_one (a : Str) : badL [a] = 1 := by
  have e : firstBad 0 [a].dropLast = 0 := rfl
  unfold badL
  rw [e, if_neg (by decide), if_pos (.inr (by show 1 < 3; decide))]
  rfl
theorem bad0 {ls : List Str} {z : Str} (ez : ls[0]? = some z) (h : (headOf "starts" z).isSome = false ∨ ls.length = 1) : badL ls = 1 := by
  match ls, ez with
  | [a], ez => exact bad_one a
  | a :: b :: r, ez =>
    obtain rfl := Option.some.inj ez
    rcases h with h | h
    · have e : firstBad 0 (a :: b :: r).dropLast = 1 := by
        show (if (headOf "starts" a).isSome = true then firstBad 1 (b :: r).dropLast else 0 + 1) = 1
        rw [h]
        rfl
      unfold badL
      rw [e, if_pos (by decide)]
    · simp at h
theorem bad_start {a b : Str} {r : List Str} (h : (headOf "starts" a).isSome = false) : badL (a :: b :: r) = 1 := by
  have e : firstBad 0 (a :: b :: r).dropLast = 1 := by
    show (if (headOf "starts" a).isSome = true then firstBad 1 (b :: r).dropLast else 0 + 1) = 1
    rw [h]
    rfl
  unfold badL
  rw [e, if_pos (by decide)]
theorem bad_two {a b : Str} (h : (headOf "starts" a).isSome = true) : badL [a, b] = 2 := by
  have e : firstBad 0 [a, b].dropLast = 0 := by
    show (if (headOf "starts" a).isSome = true then firstBad 1 [] else 0 + 1) = 0
    rw [h]
    rfl
  unfold badL
  rw [e, if_neg (by decide), if_pos (.inr (show 2 < 3 by decide))]
  rfl
theorem bad_ret {a b c : Str} {r : List Str} (h : (headOf "starts" a).isSome = true) (h2 : (headOf "returns" b).isSome = false) : badL (a :: b :: c :: r) = 2 := by
  have e : firstBad 0 (a :: b :: c :: r).dropLast = 2 := by
    show (if (headOf "starts" a).isSome = true then (if (headOf "returns" b).isSome = true then firstBad 2 (c :: r).dropLast else 1 + 1) else 0 + 1) = 2
    rw [h, h2]
    rfl
  unfold badL
  rw [e, if_pos (by decide)]
theorem bad1 {ls : List Str} {a b z : Str} {r : List Str} (els : ls = a :: b :: r) (ha : (headOf "starts" a).isSome = true) (ez : ls[1]? = some z) (h : (headOf "returns" z).isSome = false ∨ ls.length = 2) : badL ls = 2 := by
  subst els
  obtain rfl := Option.some.inj ez
  match r with
  | [] => exact bad_two ha
  | c :: r =>
    rcases h with h | h
    · exact bad_ret ha h
    · simp at h
theorem bad_more {a b : Str} {dl : List Str} {last : Str} (h : (headOf "starts" a).isSome = true) (h2 : (headOf "returns" b).isSome = true) :
    badL (a :: b :: (dl ++ [last])) = if firstBad 2 dl ≠ 0 then firstBad 2 dl else if last = "" then 0 else dl.length + 3 := by
  have ed : (a :: b :: (dl ++ [last])).dropLast = a :: b :: dl := by
    rw [show a :: b :: (dl ++ [last]) = (a :: b :: dl) ++ [last] from rfl, List.dropLast_concat]
  have e : firstBad 0 (a :: b :: dl) = firstBad 2 dl := by
    show (if (headOf "starts" a).isSome = true then (if (headOf "returns" b).isSome = true then firstBad 2 dl else 1 + 1) else 0 + 1) = _
    rw [h, h2]
    rfl
  have el : (a :: b :: (dl ++ [last])).getLast? = some last := by
    rw [show a :: b :: (dl ++ [last]) = (a :: b :: dl) ++ [last] from rfl, List.getLast?_concat]
  have en : (a :: b :: (dl ++ [last])).length = dl.length + 3 := by
    rw [List.length_cons, List.length_cons, List.length_append, List.length_singleton]
  unfold badL
  rw [ed, e, el, en]
  by_cases q : firstBad 2 dl ≠ 0
  · rw [if_pos q, if_pos q]
  · rw [if_neg q, if_neg q]
    by_cases ql : last = ""
    · rw [if_pos ql, if_neg]
      rintro (z | z)
      · exact z (by rw [ql])
      · omega
    · rw [if_neg ql, if_pos (.inl fun z => ql (Option.some.inj z))]
section
variable {P : Program} {w : World} {K : PySem.W.Frag} {mg : Str → Option Value} {base : Heap}
abbrev s_l_bad_line : Stmt := top 64
abbrev N_l_bad_line : List Str := ["_law_text", "_law_lines", "_law_at", "_law_head", "_law_words"]
theorem sc_l_bad_line : FnScope N_l_bad_line ["_law_text"] (defScope s_l_bad_line) := ⟨rfl, rfl, rfl, by decide +kernel, rfl, by decide +kernel, by decide +kernel⟩
theorem ok_l_bad_line (T : Txt mg) (c_l_are_numbers : Cl P w K mg base 2 "_law_are_numbers" (spLNums K)) (c_l_good_line : Cl P w K mg base 4 "_law_good_line" spGood) (D : At K mg "_law_bad_line" s_l_bad_line ["_law_text"]) : Cl P w K mg base 5 "_law_bad_line" spBadL := by
  refine cl_of D sc_l_bad_line (fun vs H Q E h => ?_) fun f cdv A outer s H vs Q E hr h => ?_
  · obtain ⟨x, rfl, _⟩ := h
    rfl
  · obtain ⟨x, rfl, hx, so, k⟩ := h
    refine ⟨_, (pss_cons (ps_set (i := 1) sc_l_bad_line.nd rfl (Or.inl rfl) (pe_split (pv 0) pe_str))
      (pss_mid (ps_for PassesOwn.never rfl (pi_tup (pe_tup (pa_cons (pe_tup (pa_cons pe_int (pa_cons pe_str pa_nil))) (pa_cons (pe_tup (pa_cons pe_int (pa_cons pe_str pa_nil))) pa_nil)))) (pg_tup (by rfl) (pgs_cons (pg_name (i := 2) sc_l_bad_line.nd rfl (Or.inl rfl)) (pgs_cons (pg_name (i := 3) sc_l_bad_line.nd rfl (Or.inl rfl)) pgs_nil)))
        (pss_cons (ps_set (i := 4) sc_l_bad_line.nd rfl (Or.inl rfl) (pe_ifExp (pt_cmpR op_lt (pv 2) (pe_callB call_len_seq (by rfl) T.len (by decide +kernel) (pa_cons (pv 1) pa_nil)) (nomark _)) (pe_split (pe_ix ix_list (pv 1) (pv 2) (fun _ _ => rfl)) pe_str) (pe_lst (pa_cons pe_str pa_nil))))
        (pss_one (ps_if (PW.pt (pw_or (pt_cmpR op_ne (pe_ix ix_list (pv 4) pe_int (fun _ _ => rfl)) (pv 3) (nomark _)) (pw_or (pt_not (pt_val (pe_c c_l_are_numbers hr (by decide) (by rfl) (pa_cons (pe_slice sl_list (pv 4) (po_some pe_int) po_none) pa_nil)))) (pw_or1 (pt_cmpR op_eq (pe_callB call_len_seq (by rfl) T.len (by decide +kernel) (pa_cons (pv 1) pa_nil)) (pe_op op_add (pv 2) pe_int) (nomark _))))))
          (pss_one (ps_ret (pe_op op_add (pv 2) pe_int)))
          pss_nil))))
      (pss_cons (ps_for PassesOwn.never rfl (pi_range2 (by rfl) T.range (pa_cons pe_int (pa_cons (pe_op op_sub (pe_callB call_len_seq (by rfl) T.len (by decide +kernel) (pa_cons (pv 1) pa_nil)) pe_int) pa_nil))) (pg_name (i := 2) sc_l_bad_line.nd rfl (Or.inl rfl))
        (pss_one (ps_if (pt_not (pt_val (pe_c c_l_good_line hr (by decide) (by rfl) (pa_cons (pe_ix ix_list (pv 1) (pv 2) (fun _ _ => rfl)) pa_nil))))
          (pss_one (ps_ret (pe_op op_add (pv 2) pe_int)))
          pss_nil)))
      (pss_one (ps_ret (pe_ifExp (pt_cmpR op_eq (pe_ix ix_list (pv 1) (pe_un un_neg pe_int) (fun _ _ => rfl)) pe_str (nomark _)) pe_int (pe_callB call_len_seq (by rfl) T.len (by decide +kernel) (pa_cons (pv 1) pa_nil)))))))), ?_⟩
    have hz : x.length + 2 ≤ sizeLine := Nat.le_trans (show x.length + 2 ≤ 60002 by omega) (by decide)
    have hll : ((splS 10 x).map V.str).length = (splS 10 x).length := List.length_map _
    refine ⟨_, rfl, ⟨_, rfl⟩, _, _, rfl, rfl, by decide +kernel, hz, fun L hL => ?_⟩
    rw [split_eq sp10 (by decide)]
    have sL := same_new (o := .lst ((splS 10 x).map V.str)) hL
    have hLs : upd H L (.lst ((splS 10 x).map V.str)) L = some (.lst ((splS 10 x).map V.str)) := upd_same
    have hes : ∀ z ∈ splS 10 x, z.length ≤ 60000 ∧ sok z := fun z m => ⟨Nat.le_trans (splS_each m) hx, sok_split so z m⟩
    have hnl := splS_len 10 x
    have hne := splS_ne 10 x
    have kk : ∀ n H', badL (splS 10 x) = n → Same (upd H L (.lst ((splS 10 x).map V.str))) H' → Q (.int (n : Nat)) H' := fun n H' e s => by
      have := k H' (sL.trans s)
      rw [e] at this
      exact this
    clear k
    generalize splS 10 x = ls at *
    generalize upd H L (.lst (ls.map V.str)) = H1 at *
    have hL1 : SqL K H1 L (ls.map V.str) := .inl (.inl hLs)
    refine ⟨fun σ' H' => ∃ (a b : Str) (dl : List Str) (last : Str) (v2 v3 v4 : Option V), σ' = [some (.str x), some (.ref L), v2, v3, v4] ∧ Same H1 H' ∧ ls = a :: b :: (dl ++ [last]) ∧ (headOf "starts" a).isSome = true ∧ (headOf "returns" b).isSome = true, ?_, ?_⟩
    · refine ⟨by show 2 ≤ sizeLine; decide, fun p1 hp1 => ⟨by show 2 ≤ sizeLine; decide, fun p2 hp2 => ⟨by show 2 ≤ sizeLine; decide, fun p hp => ?_⟩⟩⟩
      have s1 := same_new (o := .tup [.int 0, .str "starts"]) hp1
      have s2 := same_new (o := .tup [.int 1, .str "returns"]) hp2
      have s3 := same_new (o := .tup [.ref p1, .ref p2]) hp
      have s13 := (s1.trans s2).trans s3
      have hp1' := s3 _ _ (s2 _ _ (upd_same (H := H1) (a := p1) (o := .tup [.int 0, .str "starts"])))
      have hp2' := s3 _ _ (upd_same (H := upd H1 p1 (.tup [.int 0, .str "starts"])) (a := p2) (o := .tup [.int 1, .str "returns"]))
      have hpp := upd_same (H := upd (upd H1 p1 (.tup [.int 0, .str "starts"])) p2 (.tup [.int 1, .str "returns"])) (a := p) (o := .tup [.ref p1, .ref p2])
      generalize upd (upd (upd H1 p1 (.tup [.int 0, .str "starts"])) p2 (.tup [.int 1, .str "returns"])) p (.tup [.ref p1, .ref p2]) = H2 at *
      refine ⟨p, rfl, ⟨_, .inl (.inl hpp)⟩, ?_⟩
      refine for_it (walk_tup (K := K) (a := p) (xs := [.ref p1, .ref p2])) (fun i σ H' => ∃ (v2 v3 v4 : Option V), σ = [some (.str x), some (.ref L), v2, v3, v4] ∧ Same H2 H' ∧ (1 ≤ i → ∃ a b r, ls = a :: b :: r ∧ (headOf "starts" a).isSome = true) ∧ (2 ≤ i → ∃ a b c r, ls = a :: b :: c :: r ∧ (headOf "starts" a).isSome = true ∧ (headOf "returns" b).isSome = true)) ?_ (fun i σ H' _ z => ?_) ?_ ?_
      · exact ⟨none, none, none, rfl, Same.refl _, fun z => by omega, fun z => by omega⟩
      · obtain ⟨_, _, _, _, z, _⟩ := z
        exact .inl (.inl (z _ _ hpp))
      · rintro i v σ H0 H3 hi ⟨v2, v3, v4, rfl, s4, g1, g2⟩ ⟨rfl, ev⟩
        match i, hi, ev, g1, g2 with
        | 0, hi, ev, g1, g2 =>
          obtain rfl := Option.some.inj ev
          have hlen0 : 0 < ls.length := List.length_pos_iff.mpr hne
          refine ⟨p1, _, rfl, .inl (.inl (s4 _ _ hp1')), rfl, _, _, rfl, _, _, rfl, rfl, ?_⟩
          have s14 := s13.trans s4
          have hL3 := s14.seq hL1
          refine ⟨_, rfl, _, rfl, L, _, rfl, .inl hL3, _, _, rfl, rfl, _, rfl, ?_⟩
          show if decide ((0 : Int) < ((ls.map V.str).length : Nat)) = true then _ else _
          rw [hll, decide_eq_true (show (0 : Int) < (ls.length : Nat) by omega)]
          obtain ⟨z, ez⟩ : ∃ z, ls[0]? = some z := ⟨_, List.getElem?_eq_getElem (show 0 < ls.length by omega)⟩
          have hz1 := hes z (List.mem_of_getElem? ez)
          refine iteT ⟨_, rfl, _, rfl, L, _, _, _, rfl, rfl, hL3, atI_nat (j := 0) (by rw [List.getElem?_map, ez]; rfl), ⟨_, rfl⟩, _, _, rfl, rfl, by decide +kernel, Nat.le_trans (show z.length + 2 ≤ 60002 by omega) (by decide), fun W hW => ?_⟩
          rw [split_eq sp32 (by decide), cut_words]
          have sW := same_new (o := .lst ((wordOf z :: restOf z).map V.str)) hW
          have hWs : upd H3 W (.lst ((wordOf z :: restOf z).map V.str)) W = some (.lst ((wordOf z :: restOf z).map V.str)) := upd_same
          have hwd : WdL (wordOf z :: restOf z) := by
            rw [← cut_words]
            exact ⟨by have := splS_len 32 z; omega, fun y m => ⟨Nat.le_trans (splS_each m) hz1.1, sok_split hz1.2 y m⟩⟩
          have hwr : WdL (restOf z) := ⟨by have := hwd.1; rw [List.length_cons] at this; omega, fun y m => hwd.2 y (List.mem_cons_of_mem _ m)⟩
          have at0 : atI ((wordOf z :: restOf z).map V.str) 0 = some (.str (wordOf z)) := atI_nat (j := 0) rfl
          have s15 := s14.trans sW
          generalize upd H3 W (.lst ((wordOf z :: restOf z).map V.str)) = H4 at *
          refine ⟨_, rfl, W, _, _, _, rfl, rfl, .inl (.inl hWs), at0, _, rfl, rfl, _, rfl, ?_⟩
          rw [decS]
          have hbad : (headOf "starts" z).isSome = false ∨ ls.length = 0 + 1 → ∀ H', Same H4 H' → Q (.int (0 + 1)) H' := fun h H' s => kk (0 + 1) H' (bad0 ez h) (s15.trans s)
          by_cases hw : wordOf z = "starts"
          · have eh : headOf "starts" z = numsW (restOf z) := if_pos hw
            rw [decide_eq_true hw]
            refine iteF ⟨_, rfl, _, rfl, W, _, rfl, .inl (.inl hWs), fun W2 hW2 => ?_⟩
            rw [show (1 : Int) = ((1 : Nat) : Int) from rfl, cut_from (by rw [List.length_map, List.length_cons]; omega)]
            have s6 := same_new (o := .lst (((wordOf z :: restOf z).map V.str).drop 1)) hW2
            refine ⟨W2, restOf z, rfl, .inl (.inl upd_same), hwr, fun H6 s7 => ⟨_, rfl, ?_⟩⟩
            have sx := s6.trans s7
            cases en : (numsW (restOf z)).isSome with
            | false => exact iteT ⟨_, rfl, _, _, rfl, rfl, hbad (.inl (by rw [eh, en])) _ sx⟩
            | true =>
              refine iteF ⟨_, rfl, L, _, rfl, .inl ((s15.trans sx).seq hL1), _, rfl, _, _, rfl, rfl, rfl, _, rfl, ?_⟩
              show if decide (V.int ((ls.map V.str).length : Nat) = V.int (0 + 1)) = true then _ else _
              rw [hll]
              by_cases q : ls.length = 0 + 1
              · rw [decide_eq_true (show V.int (ls.length : Nat) = V.int (0 + 1) by rw [q]; rfl)]
                exact iteT ⟨_, rfl, _, _, rfl, rfl, hbad (.inr q) _ sx⟩
              · rw [decide_eq_false (fun z => by injection z with z; omega)]
                refine iteF ⟨_, _, _, rfl, s4.trans (sW.trans sx), ?_⟩
                refine ⟨fun _ => ?_, fun z => absurd z (by omega)⟩
                match ls, ez, q with
                | [a], ez, q => exact absurd rfl q
                | a :: b :: r, ez, q =>
                  obtain rfl := Option.some.inj ez
                  exact ⟨a, b, r, rfl, by rw [eh, en]⟩
          · have eh : headOf "starts" z = none := if_neg hw
            rw [decide_eq_false hw]
            exact iteT ⟨_, rfl, _, _, rfl, rfl, hbad (.inl (by rw [eh]; rfl)) _ (Same.refl _)⟩
        | 1, hi, ev, g1, g2 =>
          obtain rfl := Option.some.inj ev
          obtain ⟨a, b, r, els, ha⟩ := g1 (Nat.le_refl _)
          have hlen1 : 1 < ls.length := by rw [els]; simp
          refine ⟨p2, _, rfl, .inl (.inl (s4 _ _ hp2')), rfl, _, _, rfl, _, _, rfl, rfl, ?_⟩
          have s14 := s13.trans s4
          have hL3 := s14.seq hL1
          refine ⟨_, rfl, _, rfl, L, _, rfl, .inl hL3, _, _, rfl, rfl, _, rfl, ?_⟩
          show if decide ((1 : Int) < ((ls.map V.str).length : Nat)) = true then _ else _
          rw [hll, decide_eq_true (show (1 : Int) < (ls.length : Nat) by omega)]
          obtain ⟨z, ez⟩ : ∃ z, ls[1]? = some z := ⟨_, List.getElem?_eq_getElem (show 1 < ls.length by omega)⟩
          have hz1 := hes z (List.mem_of_getElem? ez)
          refine iteT ⟨_, rfl, _, rfl, L, _, _, _, rfl, rfl, hL3, atI_nat (j := 1) (by rw [List.getElem?_map, ez]; rfl), ⟨_, rfl⟩, _, _, rfl, rfl, by decide +kernel, Nat.le_trans (show z.length + 2 ≤ 60002 by omega) (by decide), fun W hW => ?_⟩
          rw [split_eq sp32 (by decide), cut_words]
          have sW := same_new (o := .lst ((wordOf z :: restOf z).map V.str)) hW
          have hWs : upd H3 W (.lst ((wordOf z :: restOf z).map V.str)) W = some (.lst ((wordOf z :: restOf z).map V.str)) := upd_same
          have hwd : WdL (wordOf z :: restOf z) := by
            rw [← cut_words]
            exact ⟨by have := splS_len 32 z; omega, fun y m => ⟨Nat.le_trans (splS_each m) hz1.1, sok_split hz1.2 y m⟩⟩
          have hwr : WdL (restOf z) := ⟨by have := hwd.1; rw [List.length_cons] at this; omega, fun y m => hwd.2 y (List.mem_cons_of_mem _ m)⟩
          have at0 : atI ((wordOf z :: restOf z).map V.str) 0 = some (.str (wordOf z)) := atI_nat (j := 0) rfl
          have s15 := s14.trans sW
          generalize upd H3 W (.lst ((wordOf z :: restOf z).map V.str)) = H4 at *
          refine ⟨_, rfl, W, _, _, _, rfl, rfl, .inl (.inl hWs), at0, _, rfl, rfl, _, rfl, ?_⟩
          rw [decS]
          have hbad : (headOf "returns" z).isSome = false ∨ ls.length = 1 + 1 → ∀ H', Same H4 H' → Q (.int (1 + 1)) H' := fun h H' s => kk (1 + 1) H' (bad1 els ha ez h) (s15.trans s)
          by_cases hw : wordOf z = "returns"
          · have eh : headOf "returns" z = numsW (restOf z) := if_pos hw
            rw [decide_eq_true hw]
            refine iteF ⟨_, rfl, _, rfl, W, _, rfl, .inl (.inl hWs), fun W2 hW2 => ?_⟩
            rw [show (1 : Int) = ((1 : Nat) : Int) from rfl, cut_from (by rw [List.length_map, List.length_cons]; omega)]
            have s6 := same_new (o := .lst (((wordOf z :: restOf z).map V.str).drop 1)) hW2
            refine ⟨W2, restOf z, rfl, .inl (.inl upd_same), hwr, fun H6 s7 => ⟨_, rfl, ?_⟩⟩
            have sx := s6.trans s7
            cases en : (numsW (restOf z)).isSome with
            | false => exact iteT ⟨_, rfl, _, _, rfl, rfl, hbad (.inl (by rw [eh, en])) _ sx⟩
            | true =>
              refine iteF ⟨_, rfl, L, _, rfl, .inl ((s15.trans sx).seq hL1), _, rfl, _, _, rfl, rfl, rfl, _, rfl, ?_⟩
              show if decide (V.int ((ls.map V.str).length : Nat) = V.int (1 + 1)) = true then _ else _
              rw [hll]
              by_cases q : ls.length = 1 + 1
              · rw [decide_eq_true (show V.int (ls.length : Nat) = V.int (1 + 1) by rw [q]; rfl)]
                exact iteT ⟨_, rfl, _, _, rfl, rfl, hbad (.inr q) _ sx⟩
              · rw [decide_eq_false (fun z => by injection z with z; omega)]
                refine iteF ⟨_, _, _, rfl, s4.trans (sW.trans sx), ?_⟩
                refine ⟨fun _ => ⟨a, b, r, els, ha⟩, fun _ => ?_⟩
                subst els
                match r, q with
                | [], q => exact absurd rfl q
                | c :: r, q =>
                  obtain rfl := Option.some.inj ez
                  exact ⟨a, b, c, r, rfl, ha, by rw [eh, en]⟩
          · have eh : headOf "returns" z = none := if_neg hw
            rw [decide_eq_false hw]
            exact iteT ⟨_, rfl, _, _, rfl, rfl, hbad (.inl (by rw [eh]; rfl)) _ (Same.refl _)⟩
        | i + 2, hi, ev, g1, g2 => exact absurd hi (by show ¬ i + 2 < 2; omega)
      · rintro σ H3 ⟨v2, v3, v4, rfl, s4, g1, g2⟩
        obtain ⟨a, b, c, r, els, h1, h2⟩ := g2 (Nat.le_refl _)
        obtain ⟨dl, last, e⟩ : ∃ dl last, c :: r = dl ++ [last] := ⟨_, _, (List.dropLast_concat_getLast (by simp)).symm⟩
        exact ⟨a, b, dl, last, v2, v3, v4, rfl, s13.trans s4, by rw [els, e], h1, h2⟩
    · rintro σ' H' ⟨a, b, dl, last, v2, v3, v4, rfl, s2, els, g1, g2⟩
      have ebad := bad_more (dl := dl) (last := last) g1 g2
      rw [← els] at ebad
      have en : ls.length = dl.length + 3 := by
        rw [els, List.length_cons, List.length_cons, List.length_append, List.length_singleton]
      have big : (60001 : Int) < 2 ^ 63 := by decide
      refine ⟨_, rfl, L, _, rfl, .inl (s2.seq hL1), _, _, rfl, rfl, 2, _, rfl, ⟨by omega, by omega, by rw [hll]; omega, by rw [hll]; omega⟩, ?_⟩
      rw [hll]
      have eto : ((ls.length : Nat) - 1 - 2 : Int).toNat = dl.length := by omega
      rw [eto]
      refine for_it (walk_range (lo := 2) (n := dl.length)) (fun i σ H'' => ∃ v2, σ = [some (.str x), some (.ref L), v2, v3, v4] ∧ Same H' H'' ∧ firstBad 2 dl = firstBad (i + 2) (dl.drop i)) ⟨v2, rfl, Same.refl _, rfl⟩ (fun _ _ _ _ _ => trivial) ?_ ?_
      · rintro i v σ H0 H3 hi ⟨v2, rfl, s4, ef⟩ ⟨rfl, rfl⟩
        obtain ⟨z, ez⟩ : ∃ z, dl[i]? = some z := ⟨_, List.getElem?_eq_getElem hi⟩
        have edr : dl.drop i = z :: dl.drop (i + 1) := by
          obtain ⟨hi', e⟩ := List.getElem?_eq_some_iff.mp ez
          rw [List.drop_eq_getElem_cons hi', e]
        rw [edr] at ef
        have ef' : firstBad 2 dl = if (lineOf z).isSome = true then firstBad (i + 1 + 2) (dl.drop (i + 1)) else i + 2 + 1 := ef
        have ez2 : ls[2 + i]? = some z := by
          rw [els, show 2 + i = i + 1 + 1 by omega, List.getElem?_cons_succ, List.getElem?_cons_succ, List.getElem?_append_left hi, ez]
        have hz1 := hes z (List.mem_of_getElem? ez2)
        refine ⟨_, rfl, _, rfl, L, _, _, _, rfl, rfl, (s2.trans s4).seq hL1, ?_, z, rfl, hz1.1, hz1.2, fun H5 s5 => ⟨_, rfl, ?_⟩⟩
        · have : (2 + (i : Int)) = ((2 + i : Nat) : Int) := by omega
          rw [this]
          exact atI_nat (by rw [List.getElem?_map, ez2]; rfl)
        · cases g : (lineOf z).isSome with
          | true =>
            rw [g, if_pos rfl] at ef'
            exact iteF ⟨_, rfl, s4.trans s5, ef'⟩
          | false =>
            rw [g, if_neg Bool.false_ne_true] at ef'
            rw [if_pos (by rw [ef']; omega), ef'] at ebad
            refine iteT ⟨_, rfl, _, _, rfl, rfl, ?_⟩
            have := kk _ _ ebad ((s2.trans s4).trans s5)
            have e : ((i + 2 + 1 : Nat) : Int) = 2 + (i : Int) + 1 := by omega
            rw [e] at this
            exact this
      · rintro σ H3 ⟨v2, rfl, s4, ef⟩
        rw [List.drop_of_length_le (Nat.le_refl _)] at ef
        have ef0 : firstBad 2 dl = 0 := ef
        rw [if_neg (by rw [ef0]; exact fun z => z rfl)] at ebad
        have atl : atI (ls.map V.str) (-1) = some (.str last) := by
          rw [els, show a :: b :: (dl ++ [last]) = (a :: b :: dl) ++ [last] from rfl, List.map_append]
          exact atI_last _ _
        refine ⟨_, rfl, _, rfl, L, _, _, _, rfl, rfl, (s2.trans s4).seq hL1, atl, rfl, _, rfl, ?_⟩
        rw [decS]
        by_cases ql : last = ""
        · rw [decide_eq_true ql]
          rw [if_pos ql] at ebad
          exact iteT (kk 0 _ ebad (s2.trans s4))
        · rw [decide_eq_false ql]
          rw [if_neg ql] at ebad
          refine iteF ⟨_, rfl, L, _, rfl, .inl ((s2.trans s4).seq hL1), ?_⟩
          rw [hll, en]
          exact kk _ _ ebad (s2.trans s4)
end
end K32

namespace K32
open PySem L2 Cm
/-! ### texts, changed -/
theorem len_app (x y : Str) : (x ++ y : Str).length = x.length + y.length := by
  show (x.cps ++ y.cps).size = x.cps.size + y.cps.size
  simp
theorem sok_app {x y : Str} (a : sok x) (b : sok y) : sok (x ++ y) := by
  refine sok_iff.mpr fun c m => ?_
  rw [show cs (x ++ y) = cs x ++ cs y from TL.tl_append _ _] at m
  rcases List.mem_append.mp m with m | m
  · exact sok_iff.mp a c m
  · exact sok_iff.mp b c m
theorem cs_cutS (x : Str) (lo hi : Option Int) : ∃ a b, cs (cutS x lo hi) = ((cs x).drop a).take b := ⟨_, _, by unfold cutS; exact cs_ofL _⟩
theorem cut_len (x : Str) (lo hi : Option Int) : (cutS x lo hi).length ≤ x.length := by
  obtain ⟨a, b, e⟩ := cs_cutS x lo hi
  rw [len_cs, e, List.length_take, List.length_drop, len_cs]
  omega
theorem cut_sok {x : Str} (h : sok x) (lo hi : Option Int) : sok (cutS x lo hi) := by
  obtain ⟨a, b, e⟩ := cs_cutS x lo hi
  refine sok_iff.mpr fun c m => ?_
  rw [e] at m
  exact sok_iff.mp h c (List.mem_of_mem_drop (List.mem_of_mem_take m))
def wl (ps : List Str) : Nat := (ps.map (·.length)).sum + ps.length
theorem wl_app (a b : List Str) : wl (a ++ b) = wl a + wl b := by
  unfold wl
  rw [List.map_append, List.sum_append, List.length_append]
  omega
theorem wl_cons (a : Str) (b : List Str) : wl (a :: b) = a.length + 1 + wl b := by
  unfold wl
  rw [List.map_cons, List.sum_cons, List.length_cons]
  omega
theorem wl_cut (ps : List Str) (k : Nat) : wl (ps.take k) + wl (ps.drop k) = wl ps := by
  rw [← wl_app, List.take_append_drop]
theorem wl_less (ps : List Str) (k : Nat) : wl (ps.drop (k + 1)) ≤ wl (ps.drop k) := by
  have := wl_cut (ps.drop k) 1
  rw [List.drop_drop] at this
  omega
theorem wl_mem {ps : List Str} {p : Str} (m : p ∈ ps) : p.length + 1 ≤ wl ps := by
  obtain ⟨a, b, rfl⟩ := List.append_of_mem m
  rw [wl_app, wl_cons]
  omega
theorem joinL_wl (c : Nat) : ∀ ps : List (List Nat), ps ≠ [] → (TL.joinL [c] ps).length + 1 = (ps.map List.length).sum + ps.length
  | [], h => absurd rfl h
  | [p], _ => by show p.length + 1 = p.length + 0 + 1; omega
  | p :: q :: r, _ => by
    have ih := joinL_wl c (q :: r) (fun z => by cases z)
    rw [joinL_cons, List.length_append, List.length_append, List.map_cons, List.sum_cons, List.length_cons (a := p)]
    rw [List.length_singleton]
    omega
theorem wl_join {ps : List Str} (h : ps ≠ []) : (Str.join "\n" ps).length + 1 = wl ps := by
  have e := joinL_wl 10 (ps.map TL.tl) (fun z => h (List.map_eq_nil_iff.mp z))
  rw [tl_lens, List.length_map] at e
  have e2 : TL.tl (Str.join "\n" ps) = TL.joinL [10] (ps.map TL.tl) := by rw [TL.tl_join, show TL.tl ("\n" : Str) = [10] from sp10]
  rw [← e2, show (TL.tl (Str.join "\n" ps)).length = (Str.join "\n" ps).length from (len_cs _).symm] at e
  exact e
theorem wl_split (x : Str) : wl (splS 10 x) = x.length + 1 := by
  rw [← wl_join (splS_ne 10 x), splS_join sp10]
theorem join_wl (ps : List Str) : (Str.join "\n" ps).length ≤ wl ps := by
  cases ps with
  | nil => decide +kernel
  | cons p ps =>
    have := wl_join (ps := p :: ps) (fun z => by cases z)
    omega
theorem joinL_in {y : List Nat} {d : Nat} : ∀ {ps : List (List Nat)}, d ∈ TL.joinL y ps → d ∈ y ∨ ∃ p ∈ ps, d ∈ p
  | [], h => by cases h
  | [p], h => .inr ⟨p, List.mem_cons_self, h⟩
  | p :: q :: r, h => by
    rw [joinL_cons] at h
    rcases List.mem_append.mp h with h | h
    · exact .inr ⟨p, List.mem_cons_self, h⟩
    · rcases List.mem_append.mp h with h | h
      · exact .inl h
      · rcases joinL_in h with h | ⟨z, m, h⟩
        · exact .inl h
        · exact .inr ⟨z, List.mem_cons_of_mem _ m, h⟩
theorem join_sok {ps : List Str} (h : ∀ p ∈ ps, sok p) : sok (Str.join "\n" ps) := by
  refine sok_iff.mpr fun c m => ?_
  rw [show cs (Str.join "\n" ps) = TL.tl (Str.join "\n" ps) from rfl, TL.tl_join] at m
  rcases joinL_in m with m | ⟨p, mp, m⟩
  · rw [show TL.tl ("\n" : Str) = [10] from sp10, List.mem_singleton] at m
    subst m
    decide
  · obtain ⟨q, mq, rfl⟩ := List.mem_map.mp mp
    exact sok_iff.mp (h q mq) c m
/-- pick out of a text -/
def spPickS : Sp := fun vs H Q _ => ∃ (h c : Addr) (z : Str), vs = [.ref h, .str z] ∧ Hand H h c ∧ 0 < z.length ∧ z.length ≤ 1000 ∧ ∀ (d : Nat) (H' : Hp), d ∈ cs z → Kh h H H' → Hand H' h c → Q (.str ⟨#[d]⟩) H'
def spChanged : Sp := fun vs H Q _ => ∃ (h c : Addr) (x : Str), vs = [.ref h, .str x] ∧ Hand H h c ∧ x.length ≤ 30000 ∧ sok x ∧ ∀ (y : Str) (H' : Hp), y.length ≤ 2 * x.length + 8 → sok y → Kh h H H' → Hand H' h c → Q (.str y) H'
section
variable {P : Program} {w : World} {K : PySem.W.Frag} {mg : Str → Option Value} {base : Heap}
theorem ok_pickS (T : Txt mg) (c_l_draw : Cl P w K mg base 2 "_law_draw" spDraw) (D : At K mg "_law_pick" s_l_pick ["_law_hand_here", "_law_things"]) : Cl P w K mg base 3 "_law_pick" spPickS := by
  refine cl_of D sc_l_pick (fun vs H Q E h => ?_) fun f cdv A outer s H vs Q E hr h => ?_
  · obtain ⟨h, c, z, rfl, _⟩ := h
    rfl
  · obtain ⟨h, c, z, rfl, hh, hpos, hlen, k⟩ := h
    refine ⟨_, (pss_one (ps_ret (pe_ix ix_str (pv 1) (pe_c c_l_draw hr (by decide) (by rfl) (pa_cons (pv 0) (pa_cons (pe_callB call_len_str (by rfl) T.len (by decide +kernel) (pa_cons (pv 1) pa_nil)) pa_nil))) (fun _ _ => rfl)))), ?_⟩
    refine ⟨_, rfl, _, rfl, _, rfl, z, rfl, Nat.le_trans hlen (by decide), h, c, _, rfl, hh, by omega, Int.lt_of_le_of_lt (show (z.length : Int) ≤ 1000 by omega) (by decide), fun n H1 h0 h1 kh hh1 => ?_⟩
    obtain ⟨j, rfl⟩ : ∃ j : Nat, n = (j : Int) := ⟨n.toNat, by omega⟩
    have hj : j < (cs z).length := by rw [← len_cs]; omega
    exact ⟨z, _, _, rfl, rfl, Nat.le_trans hlen (by decide), atI_nat (List.getElem?_eq_getElem hj), k _ _ (List.getElem_mem hj) kh hh1⟩
abbrev s_l_changed : Stmt := top 65
abbrev N_l_changed : List Str := ["_law_hand_here", "_law_text", "_law_pick_here", "_law_at", "_law_sign", "_law_lines", "_law_k"]
theorem sc_l_changed : FnScope N_l_changed ["_law_hand_here", "_law_text"] (defScope s_l_changed) := ⟨rfl, rfl, rfl, by decide +kernel, rfl, by decide +kernel, by decide +kernel⟩
theorem ok_l_changed (T : Txt mg) (c_l_draw : Cl P w K mg base 2 "_law_draw" spDraw) (c_l_pick : Cl P w K mg base 3 "_law_pick" spPickS) (c_l_number : Cl P w K mg base 4 "_law_number" spNumber) (D : At K mg "_law_changed" s_l_changed ["_law_hand_here", "_law_text"]) : Cl P w K mg base 5 "_law_changed" spChanged := by
  refine cl_of D sc_l_changed (fun vs H Q E h => ?_) fun f cdv A outer s H vs Q E hr h => ?_
  · obtain ⟨h, c, x, rfl, _⟩ := h
    rfl
  · obtain ⟨h, c, x, rfl, hh, hx, so, k⟩ := h
    refine ⟨_, (pss_cons (ps_set (i := 2) sc_l_changed.nd rfl (Or.inl rfl) (pe_c c_l_draw hr (by decide) (by rfl) (pa_cons (pv 0) (pa_cons pe_int pa_nil))))
      (pss_cons (ps_if (pt_cmpR op_eq (pv 1) pe_str (nomark _))
        (pss_one (ps_ret pe_str))
        pss_nil)
      (pss_cons (ps_set (i := 3) sc_l_changed.nd rfl (Or.inl rfl) (pe_c c_l_draw hr (by decide) (by rfl) (pa_cons (pv 0) (pa_cons (pe_callB call_len_str (by rfl) T.len (by decide +kernel) (pa_cons (pv 1) pa_nil)) pa_nil))))
      (pss_cons (ps_set (i := 4) sc_l_changed.nd rfl (Or.inl rfl) (pe_c c_l_pick hr (by decide) (by rfl) (pa_cons (pv 0) (pa_cons pe_str pa_nil))))
      (pss_cons (ps_if (pt_cmpR op_eq (pv 2) pe_int (nomark _))
        (pss_one (ps_ret (pe_op op_add_str (pe_slice sl_str (pv 1) po_none (po_some (pv 3))) (pe_slice sl_str (pv 1) (po_some (pe_op op_add (pv 3) pe_int)) po_none))))
        pss_nil)
      (pss_cons (ps_if (pt_cmpR op_eq (pv 2) pe_int (nomark _))
        (pss_one (ps_ret (pe_op op_add_str (pe_op op_add_str (pe_slice sl_str (pv 1) po_none (po_some (pv 3))) (pv 4)) (pe_slice sl_str (pv 1) (po_some (pv 3)) po_none))))
        pss_nil)
      (pss_cons (ps_if (pt_cmpR op_eq (pv 2) pe_int (nomark _))
        (pss_one (ps_ret (pe_op op_add_str (pe_op op_add_str (pe_slice sl_str (pv 1) po_none (po_some (pv 3))) (pv 4)) (pe_slice sl_str (pv 1) (po_some (pe_op op_add (pv 3) pe_int)) po_none))))
        pss_nil)
      (pss_cons (ps_if (pt_cmpR op_eq (pv 2) pe_int (nomark _))
        (pss_one (ps_ret (pe_slice sl_str (pv 1) po_none (po_some (pv 3)))))
        pss_nil)
      (pss_cons (ps_set (i := 5) sc_l_changed.nd rfl (Or.inl rfl) (pe_split (pv 1) pe_str))
      (pss_cons (ps_set (i := 6) sc_l_changed.nd rfl (Or.inl rfl) (pe_c c_l_draw hr (by decide) (by rfl) (pa_cons (pv 0) (pa_cons (pe_callB call_len_seq (by rfl) T.len (by decide +kernel) (pa_cons (pv 5) pa_nil)) pa_nil))))
      (pss_cons (ps_if (pt_cmpR op_eq (pv 2) pe_int (nomark _))
        (pss_one (ps_ret (pe_join pe_str (pe_op op_cat (pe_slice sl_list (pv 5) po_none (po_some (pv 6))) (pe_slice sl_list (pv 5) (po_some (pe_op op_add (pv 6) pe_int)) po_none)))))
        pss_nil)
      (pss_cons (ps_if (pt_cmpR op_eq (pv 2) pe_int (nomark _))
        (pss_one (ps_ret (pe_join pe_str (pe_op op_cat (pe_op op_cat (pe_slice sl_list (pv 5) po_none (po_some (pv 6))) (pe_lst (pa_cons (pe_ix ix_list (pv 5) (pe_c c_l_draw hr (by decide) (by rfl) (pa_cons (pv 0) (pa_cons (pe_callB call_len_seq (by rfl) T.len (by decide +kernel) (pa_cons (pv 5) pa_nil)) pa_nil))) (fun _ _ => rfl)) pa_nil))) (pe_slice sl_list (pv 5) (po_some (pv 6)) po_none)))))
        pss_nil)
      (pss_one (ps_ret (pe_join pe_str (pe_op op_cat (pe_op op_cat (pe_slice sl_list (pv 5) po_none (po_some (pv 6))) (pe_lst (pa_cons (pe_op op_add_str (pe_op op_add_str (pe_ix ix_list (pv 5) (pv 6) (fun _ _ => rfl)) pe_str) (pe_callTy call_str_int (by rfl) T.str (by decide +kernel) (pa_cons (pe_c c_l_number hr (by decide) (by rfl) (pa_cons (pv 0) pa_nil)) pa_nil))) pa_nil))) (pe_slice sl_list (pv 5) (po_some (pe_op op_add (pv 6) pe_int)) po_none))))))))))))))))), ?_⟩
    refine ⟨_, rfl, h, c, 7, rfl, hh, by decide, by decide, fun n H1 n0 n1 k1 h1 => ?_⟩
    refine ⟨_, rfl, rfl, _, rfl, ?_⟩
    rw [decS]
    by_cases x0 : x = ""
    · rw [decide_eq_true x0]
      refine iteT (k _ _ ?_ (by decide +kernel) k1 h1)
      have : ("starts\n" : Str).length = 7 := by decide +kernel
      omega
    rw [decide_eq_false x0]
    have hpos : 0 < x.length := by
      rw [len_cs]
      refine Nat.pos_of_ne_zero fun z => x0 (cs_inj ?_)
      rw [List.length_eq_zero_iff.mp z]
      rfl
    have hz : x.length ≤ sizeLine := Nat.le_trans hx (by decide)
    have hz2 : ∀ {m : Nat}, m ≤ 100000 → m ≤ sizeLine := fun h => Nat.le_trans h (by decide)
    have hbig : ∀ {i : Int}, i ≤ 100000 → i < 2 ^ 100 := fun h => Int.lt_of_le_of_lt h (by decide)
    refine iteF ⟨_, rfl, _, rfl, x, rfl, hz, h, c, _, rfl, h1, by omega, hbig (by omega), fun at_ H2 a0 a1 k2 h2 => ?_⟩
    refine ⟨_, rfl, h, c, _, rfl, h2, by decide +kernel, by decide +kernel, fun d H3 md k3 h3 => ?_⟩
    have sd : sok ⟨#[d]⟩ := by
      have key : ∀ c ∈ cs ("0019 -\nxntfr_+" : Str), c < 0x110000 := by decide +kernel
      exact sok_iff.mpr fun c m => by rw [List.mem_singleton.mp m]; exact key d md
    have ld : (⟨#[d]⟩ : Str).length = 1 := rfl
    have k13 := (k1.trans k2).trans k3
    refine ⟨_, rfl, rfl, _, rfl, ?_⟩
    refine ite2 (fun _ => ?_) (fun _ => ?_)
    · refine ⟨_, rfl, _, rfl, _, rfl, x, rfl, hz, _, rfl, _, rfl, _, _, rfl, rfl, _, rfl, x, rfl, hz, _, _, rfl, rfl, ?_, ?_⟩
      · have e1 := cut_len x Option.none (some at_)
        have e2 := cut_len x (some (at_ + 1)) Option.none
        exact hz2 (by omega)
      · refine k _ _ ?_ (sok_app (cut_sok so _ _) (cut_sok so _ _)) k13 h3
        have e1 := cut_len x Option.none (some at_)
        have e2 := cut_len x (some (at_ + 1)) Option.none
        rw [len_app]
        omega
    refine ⟨_, rfl, rfl, _, rfl, ?_⟩
    refine ite2 (fun _ => ?_) (fun _ => ?_)
    · refine ⟨_, rfl, _, rfl, _, rfl, x, rfl, hz, _, rfl, _, _, rfl, rfl, ?_, _, rfl, _, rfl, _, rfl, x, rfl, hz, _, _, rfl, rfl, ?_, ?_⟩
      · have e1 := cut_len x Option.none (some at_)
        exact hz2 (by omega)
      · have e1 := cut_len x Option.none (some at_)
        have e2 := cut_len x (some at_) Option.none
        rw [len_app]
        exact hz2 (by omega)
      · refine k _ _ ?_ (sok_app (sok_app (cut_sok so _ _) sd) (cut_sok so _ _)) k13 h3
        have e1 := cut_len x Option.none (some at_)
        have e2 := cut_len x (some at_) Option.none
        rw [len_app, len_app]
        omega
    refine ⟨_, rfl, rfl, _, rfl, ?_⟩
    refine ite2 (fun _ => ?_) (fun _ => ?_)
    · refine ⟨_, rfl, _, rfl, _, rfl, x, rfl, hz, _, rfl, _, _, rfl, rfl, ?_, _, rfl, _, rfl, _, _, rfl, rfl, _, rfl, x, rfl, hz, _, _, rfl, rfl, ?_, ?_⟩
      · have e1 := cut_len x Option.none (some at_)
        exact hz2 (by omega)
      · have e1 := cut_len x Option.none (some at_)
        have e2 := cut_len x (some (at_ + 1)) Option.none
        rw [len_app]
        exact hz2 (by omega)
      · refine k _ _ ?_ (sok_app (sok_app (cut_sok so _ _) sd) (cut_sok so _ _)) k13 h3
        have e1 := cut_len x Option.none (some at_)
        have e2 := cut_len x (some (at_ + 1)) Option.none
        rw [len_app, len_app]
        omega
    refine ⟨_, rfl, rfl, _, rfl, ?_⟩
    refine ite2 (fun _ => ?_) (fun _ => ?_)
    · refine ⟨_, rfl, _, rfl, _, rfl, x, rfl, hz, ?_⟩
      refine k _ _ ?_ (cut_sok so _ _) k13 h3
      have e1 := cut_len x Option.none (some at_)
      omega
    refine ⟨_, rfl, ⟨_, rfl⟩, _, _, rfl, rfl, by decide +kernel, hz2 (by omega), fun L hL => ?_⟩
    rw [split_eq sp10 (by decide)]
    have sL := same_new (o := .lst ((splS 10 x).map V.str)) hL
    have hLs : upd H3 L (.lst ((splS 10 x).map V.str)) L = some (.lst ((splS 10 x).map V.str)) := upd_same
    have hh3 := h3.same sL
    have kL := k13.trans (h3.kh sL)
    have hL0 : L ≠ h := (h3.there hL).1
    have hes : ∀ z ∈ splS 10 x, sok z := sok_split so
    have hnl := splS_len 10 x
    have hne := splS_ne 10 x
    have hwl := wl_split x
    generalize upd H3 L (.lst ((splS 10 x).map V.str)) = H4 at *
    generalize splS 10 x = ls at *
    have hll : (ls.map V.str).length = ls.length := List.length_map _
    have hlp : 0 < ls.length := List.length_pos_iff.mpr hne
    refine ⟨_, rfl, _, rfl, L, _, rfl, .inl (.inl (.inl hLs)), h, c, _, rfl, hh3, by rw [hll]; omega, hbig (by rw [hll]; omega), fun kq H5 kq0 kq1 k5 h5 => ?_⟩
    rw [hll] at kq1
    obtain ⟨kn, rfl⟩ : ∃ kn : Nat, kq = (kn : Int) := ⟨kq.toNat, by omega⟩
    have hkn : kn < ls.length := by omega
    have hL5 : H5 L = some (.lst (ls.map V.str)) := k5.st _ _ hL0 hLs
    have kk : ∀ (ys : List Str) (H' : Hp), wl ys ≤ 2 * x.length + 8 → (∀ y ∈ ys, sok y) → Kh h H5 H' → Hand H' h c → Q (.str (Str.join "\n" ys)) H' := fun ys H' hw hs k' h' =>
      k _ _ (Nat.le_trans (join_wl ys) hw) (join_sok hs) ((kL.trans k5).trans k') h'
    have joins : ∀ (A3 : Addr) (ys : List Str) (H' : Hp), H' A3 = some (.lst (ys.map V.str)) → wl ys ≤ 2 * x.length + 8 → (∀ y ∈ ys, sok y) → Kh h H5 H' → Hand H' h c →
        ∃ a p, ∃ ys : List Str, V.str "\n" = .str a ∧ ([V.ref A3] : List V) = [.ref p] ∧ (SqL K H' p (ys.map V.str) ∨ SqT K H' p (ys.map V.str)) ∧ (ys.map (·.length)).sum + ys.length * a.length ≤ 16777216 ∧ Q (.str (Txt.join a ys)) H' := fun A3 ys H' e hw hs k' h' => by
      refine ⟨"\n", A3, ys, rfl, rfl, .inl (.inl (.inl e)), ?_, ?_⟩
      · have : ("\n" : Str).length = 1 := by decide +kernel
        rw [this, Nat.mul_one]
        unfold wl at hw
        omega
      · rw [TL.join_eq]
        exact kk ys H' hw hs k' h'
    have cutA : cutV (ls.map V.str) Option.none (some ((kn : Nat) : Int)) = (ls.take kn).map V.str := by
      rw [cut_to (by rw [hll]; omega), List.map_take]
    have cutB : cutV (ls.map V.str) (some ((kn : Nat) : Int)) Option.none = (ls.drop kn).map V.str := by
      rw [cut_from (by rw [hll]; omega), List.map_drop]
    have cutC : cutV (ls.map V.str) (some (((kn : Nat) : Int) + 1)) Option.none = (ls.drop (kn + 1)).map V.str := by
      rw [show ((kn : Nat) : Int) + 1 = ((kn + 1 : Nat) : Int) by omega, cut_from (by rw [hll]; omega), List.map_drop]
    have w1 := wl_cut ls kn
    have w2 := wl_less ls kn
    have sA : ∀ y ∈ ls.take kn, sok y := fun y m => hes y (List.mem_of_mem_take m)
    have sB : ∀ y ∈ ls.drop kn, sok y := fun y m => hes y (List.mem_of_mem_drop m)
    have sC : ∀ y ∈ ls.drop (kn + 1), sok y := fun y m => hes y (List.mem_of_mem_drop m)
    have cat2 : ∀ {a b : List Str}, (∀ y ∈ a, sok y) → (∀ y ∈ b, sok y) → ∀ y ∈ a ++ b, sok y := fun ha hb y m => (List.mem_append.mp m).elim (ha y) (hb y)
    have sz : ∀ {a b : List Str}, a.length + b.length ≤ 90000 → (a.map V.str).length + (b.map V.str).length ≤ sizeLine := fun h => by
      rw [List.length_map, List.length_map]
      exact hz2 (by omega)
    refine ⟨_, rfl, rfl, _, rfl, ?_⟩
    refine ite2 (fun _ => ?_) (fun _ => ?_)
    · refine ⟨⟨_, rfl⟩, _, rfl, _, rfl, _, rfl, L, _, rfl, .inl (.inl hL5), fun A1 hA1 => ?_⟩
      rw [cutA]
      have s1 := same_new (o := .lst ((ls.take kn).map V.str)) hA1
      refine ⟨_, rfl, _, rfl, _, _, rfl, rfl, _, rfl, L, _, rfl, .inl (.inl (s1 _ _ hL5)), fun A2 hA2 => ?_⟩
      rw [cutC]
      have s2 := same_new (o := .lst ((ls.drop (kn + 1)).map V.str)) hA2
      refine ⟨A1, A2, _, _, rfl, rfl, s2 _ _ upd_same, upd_same, sz (by rw [List.length_take, List.length_drop]; omega), fun A3 hA3 => ?_⟩
      rw [← List.map_append]
      have s3 := same_new (o := .lst ((ls.take kn ++ ls.drop (kn + 1)).map V.str)) hA3
      have sx := (s1.trans s2).trans s3
      refine joins A3 _ _ upd_same ?_ (cat2 sA sC) (h5.kh sx) (h5.same sx)
      rw [wl_app]
      omega
    refine ⟨_, rfl, rfl, _, rfl, ?_⟩
    refine ite2 (fun _ => ?_) (fun _ => ?_)
    · refine ⟨⟨_, rfl⟩, _, rfl, _, rfl, _, rfl, L, _, rfl, .inl (.inl hL5), fun A1 hA1 => ?_⟩
      rw [cutA]
      have s1 := same_new (o := .lst ((ls.take kn).map V.str)) hA1
      refine ⟨_, rfl, _, rfl, _, rfl, L, _, rfl, .inl (.inl (.inl (s1 _ _ hL5))), h, c, _, rfl, h5.same s1, by rw [hll]; omega, hbig (by rw [hll]; omega), fun jq H6 j0 j1 k6 h6 => ?_⟩
      rw [hll] at j1
      obtain ⟨jn, rfl⟩ : ∃ jn : Nat, jq = (jn : Int) := ⟨jq.toNat, by omega⟩
      obtain ⟨z, ez⟩ : ∃ z, ls[jn]? = some z := ⟨_, List.getElem?_eq_getElem (by omega)⟩
      have mz := List.mem_of_getElem? ez
      have hL6 : H6 L = some (.lst (ls.map V.str)) := k6.st _ _ hL0 (s1 _ _ hL5)
      have hA6 : H6 A1 = some (.lst ((ls.take kn).map V.str)) := k6.st _ _ (h5.there hA1).1 upd_same
      refine ⟨L, _, _, _, rfl, rfl, .inl (.inl hL6), atI_nat (j := jn) (by rw [List.getElem?_map, ez]; rfl), by show 1 ≤ sizeLine; decide, fun A2 hA2 => ?_⟩
      have s2 := same_new (o := .lst [.str z]) hA2
      refine ⟨A1, A2, _, _, rfl, rfl, s2 _ _ hA6, upd_same, sz (b := [z]) (by rw [List.length_take, List.length_singleton]; omega), fun A3 hA3 => ?_⟩
      have e3 : (ls.take kn).map V.str ++ [V.str z] = (ls.take kn ++ [z]).map V.str := by rw [List.map_append]; rfl
      rw [e3]
      have s3 := same_new (o := .lst ((ls.take kn ++ [z]).map V.str)) hA3
      refine ⟨_, rfl, _, rfl, _, rfl, L, _, rfl, .inl (.inl (s3 _ _ (s2 _ _ hL6))), fun A4 hA4 => ?_⟩
      rw [cutB]
      have s4 := same_new (o := .lst ((ls.drop kn).map V.str)) hA4
      refine ⟨A3, A4, _, _, rfl, rfl, s4 _ _ upd_same, upd_same, sz (by rw [List.length_append, List.length_take, List.length_drop, List.length_singleton]; omega), fun A5 hA5 => ?_⟩
      rw [← List.map_append]
      have s5 := same_new (o := .lst ((ls.take kn ++ [z] ++ ls.drop kn).map V.str)) hA5
      have sx := ((s2.trans s3).trans s4).trans s5
      refine joins A5 _ _ upd_same ?_ (cat2 (cat2 sA (fun y m => by rw [List.mem_singleton.mp m]; exact hes z mz)) sB) (((h5.kh s1).trans k6).trans (h6.kh sx)) (h6.same sx)
      have e1 := wl_mem mz
      rw [wl_app, wl_app, wl_cons]
      have e2 : wl [] = 0 := rfl
      omega
    · refine ⟨⟨_, rfl⟩, _, rfl, _, rfl, _, rfl, L, _, rfl, .inl (.inl hL5), fun A1 hA1 => ?_⟩
      rw [cutA]
      have s1 := same_new (o := .lst ((ls.take kn).map V.str)) hA1
      obtain ⟨z, ez⟩ : ∃ z, ls[kn]? = some z := ⟨_, List.getElem?_eq_getElem (by omega)⟩
      have mz := List.mem_of_getElem? ez
      have lz := wl_mem mz
      have e1 : (" " : Str).length = 1 := by decide +kernel
      refine ⟨_, rfl, _, rfl, L, _, _, _, rfl, rfl, .inl (.inl (s1 _ _ hL5)), atI_nat (j := kn) (by rw [List.getElem?_map, ez]; rfl), _, _, rfl, rfl, ?_, _, rfl, h, c, rfl, h5.same s1, fun n6 H6 hn6 k6 h6 => ?_⟩
      · rw [e1]
        exact hz2 (by omega)
      have ln := nS_len hn6
      refine ⟨_, rfl, log_small (Nat.lt_trans hn6 (by decide)), _, _, rfl, rfl, ?_, by show 1 ≤ sizeLine; decide, fun A2 hA2 => ?_⟩
      · show (z ++ " ").length + (nS n6).length ≤ sizeLine
        rw [len_app, e1]
        exact hz2 (by omega)
      have hL6 : H6 L = some (.lst (ls.map V.str)) := k6.st _ _ hL0 (s1 _ _ hL5)
      have hA6 : H6 A1 = some (.lst ((ls.take kn).map V.str)) := k6.st _ _ (h5.there hA1).1 upd_same
      rw [← (show nS n6 = Str.ofString (toString ((n6 : Nat) : Int)) from rfl)]
      have s2 := same_new (o := .lst [.str (z ++ " " ++ nS n6)]) hA2
      refine ⟨A1, A2, _, _, rfl, rfl, s2 _ _ hA6, upd_same, sz (b := [z ++ " " ++ nS n6]) (by rw [List.length_take, List.length_singleton]; omega), fun A3 hA3 => ?_⟩
      have e3 : (ls.take kn).map V.str ++ [V.str (z ++ " " ++ nS n6)] = (ls.take kn ++ [z ++ " " ++ nS n6]).map V.str := by rw [List.map_append]; rfl
      have sz3 : sok (z ++ " " ++ nS n6) := sok_app (sok_app (hes z mz) (by decide +kernel)) (sok_iff.mpr fun c m => by
        rw [show cs (nS n6) = TL.numL n6 from numS_nat n6] at m
        have := TL.numL_digits n6 c m
        have h2 := this.2
        omega)
      rw [e3]
      have s3 := same_new (o := .lst ((ls.take kn ++ [z ++ " " ++ nS n6]).map V.str)) hA3
      refine ⟨_, rfl, _, rfl, _, _, rfl, rfl, _, rfl, L, _, rfl, .inl (.inl (s3 _ _ (s2 _ _ hL6))), fun A4 hA4 => ?_⟩
      rw [cutC]
      have s4 := same_new (o := .lst ((ls.drop (kn + 1)).map V.str)) hA4
      refine ⟨A3, A4, _, _, rfl, rfl, s4 _ _ upd_same, upd_same, sz (by rw [List.length_append, List.length_take, List.length_drop, List.length_singleton]; omega), fun A5 hA5 => ?_⟩
      rw [← List.map_append]
      have s5 := same_new (o := .lst ((ls.take kn ++ [z ++ " " ++ nS n6] ++ ls.drop (kn + 1)).map V.str)) hA5
      have sx := ((s2.trans s3).trans s4).trans s5
      refine joins A5 _ _ upd_same ?_ (cat2 (cat2 sA (fun y m => by rw [List.mem_singleton.mp m]; exact sz3)) sC) (((h5.kh s1).trans k6).trans (h6.kh sx)) (h6.same sx)
      rw [wl_app, wl_app, wl_cons, len_app, len_app, e1]
      have e2 : wl [] = 0 := rfl
      have w3 : wl (ls.drop (kn + 1)) + z.length + 1 = wl (ls.drop kn) := by
        have e := List.drop_eq_getElem_cons (i := kn) (l := ls) hkn
        have e4 : ls[kn] = z := by
          have := List.getElem?_eq_getElem hkn
          rw [ez] at this
          exact (Option.some.inj this).symm
        rw [e, wl_cons, e4]
        omega
      omega
end
end K32

namespace K32
open PySem L2 Cm
/-! ### a drawn instruction -/
def wordsL : List Str := ["value", "fun", "op", "rec", "call", "copy", "show", "ask", "keep", "once", "mark", "save", "unless", "jump", "back", "take", "wind"]
def spInstr (K : PySem.W.Frag) : Sp := fun vs H Q _ => ∃ (h c : Addr), vs = [.ref h] ∧ Hand H h c ∧ ∀ (r : Rw) (v : V) (H' : Hp), r.ok → wl r.wds ≤ 110 → Kh h H H' → Hand H' h c → Dp K H' v r.enc → Q v H'
theorem wl_nums {ks : List Nat} (h : ∀ n ∈ ks, n < 100000) : wl (ks.map nS) ≤ 6 * ks.length := by
  have := nS_sum h
  unfold wl
  rw [List.length_map]
  omega
theorem wl_num {n : Nat} (h : n < 100000) : (nS n).length + 1 ≤ 6 := by
  have := nS_len h
  omega
theorem wl_nil : wl [] = 0 := rfl
theorem enc_nums (ks : List Nat) : (ks.map It5.n).map It5.enc = ks.map numD := by rw [List.map_map]; rfl
theorem wds_nums (ks : List Nat) : ((ks.map It5.n).map It5.wds).flatten = ks.map nS := by
  induction ks with
  | nil => rfl
  | cons k ks ih => rw [List.map_cons, List.map_cons, List.flatten_cons, ih]; rfl
theorem fits_nums : ∀ {ks : List Nat}, (∀ n ∈ ks, n < 100000) → fits (List.replicate ks.length .num) (ks.map It5.n)
  | [], _ => trivial
  | k :: ks, h => ⟨h k List.mem_cons_self, fits_nums fun n m => h n (List.mem_cons_of_mem _ m)⟩
theorem last_nums : ∀ k : Nat, lastB (List.replicate k .num) = true
  | 0 => rfl
  | k + 1 => last_nums k
/-- a row of numbers -/
theorem ok_nrow {x : Str} {ks : List Nat} (hs : shapeOf x = some (List.replicate ks.length .num)) (h : ∀ n ∈ ks, n < 100000) : (⟨x, ks.map It5.n⟩ : Rw).ok := ⟨_, hs, last_nums _, fits_nums h⟩
theorem wl_nrow {x : Str} {ks : List Nat} (h : ∀ n ∈ ks, n < 100000) : wl (⟨x, ks.map It5.n⟩ : Rw).wds ≤ x.length + 1 + 6 * ks.length := by
  show wl (x :: ((ks.map It5.n).map It5.wds).flatten) ≤ _
  rw [wds_nums, wl_cons]
  have := wl_nums h
  omega
theorem dp_nrow {K : PySem.W.Frag} {H : Hp} {t : Addr} {x : Str} {ks : List Nat} (ht : SqT K H t (.str x :: ks.map numv)) : Dp K H (.ref t) (⟨x, ks.map It5.n⟩ : Rw).enc := by
  show Dp K H (.ref t) (.tuple (.str x :: (ks.map It5.n).map It5.enc))
  rw [enc_nums]
  exact .tup ht (.cons (.str _) (dp_nums ks))
theorem wl_val {i : It5} (h : fitI .val i) : wl i.wds ≤ 12 := by
  cases i with
  | c w =>
    have key : ∀ w ∈ consW, w.length ≤ 5 := by decide +kernel
    show wl [w] ≤ 12
    have := key w h
    rw [wl_cons, wl_nil]
    omega
  | v i =>
    show wl [numS i] ≤ 12
    have := num_len (i := i) h
    rw [wl_cons, wl_nil]
    omega
  | _ => exact h.elim
section
variable {P : Program} {w : World} {K : PySem.W.Frag} {mg : Str → Option Value} {base : Heap}
abbrev s_l_instruction : Stmt := top 56
abbrev N_l_instruction : List Str := ["_law_hand_here", "_law_words", "_law_ops", "_law_word", "_law_many", "_law_pairs", "_law_k", "_law_body"]
theorem sc_l_instruction : FnScope N_l_instruction ["_law_hand_here"] (defScope s_l_instruction) := ⟨rfl, rfl, rfl, by decide +kernel, rfl, by decide +kernel, by decide +kernel⟩
theorem ok_l_instruction (T : Txt mg) (c_l_draw : Cl P w K mg base 2 "_law_draw" spDraw) (c_l_pick : Cl P w K mg base 3 "_law_pick" (spPick K)) (c_l_number : Cl P w K mg base 4 "_law_number" spNumber) (c_l_numbers : Cl P w K mg base 5 "_law_numbers" (spNumbers K)) (c_l_value : Cl P w K mg base 5 "_law_value" (spValue K))
    (D : At K mg "_law_instruction" s_l_instruction ["_law_hand_here"]) : Cl P w K mg base 6 "_law_instruction" (spInstr K) := by
  refine cl_of D sc_l_instruction (fun vs H Q E h => ?_) fun f cdv A outer s H vs Q E hr h => ?_
  · obtain ⟨h, c, rfl, _⟩ := h
    rfl
  · obtain ⟨h, c, rfl, hh, k⟩ := h
    refine ⟨_, (pss_cons (ps_set (i := 1) sc_l_instruction.nd rfl (Or.inl rfl) (pe_tup (pa_cons pe_str (pa_cons pe_str (pa_cons pe_str (pa_cons pe_str (pa_cons pe_str (pa_cons pe_str (pa_cons pe_str (pa_cons pe_str (pa_cons pe_str (pa_cons pe_str (pa_cons pe_str (pa_cons pe_str (pa_cons pe_str (pa_cons pe_str (pa_cons pe_str (pa_cons pe_str (pa_cons pe_str pa_nil)))))))))))))))))))
      (pss_cons (ps_set (i := 2) sc_l_instruction.nd rfl (Or.inl rfl) (pe_tup (pa_cons pe_str (pa_cons pe_str (pa_cons pe_str (pa_cons pe_str (pa_cons pe_str (pa_cons pe_str (pa_cons pe_str (pa_cons pe_str (pa_cons pe_str (pa_cons pe_str (pa_cons pe_str (pa_cons pe_str (pa_cons pe_str (pa_cons pe_str (pa_cons pe_str (pa_cons pe_str (pa_cons pe_str pa_nil)))))))))))))))))))
      (pss_cons (ps_set (i := 3) sc_l_instruction.nd rfl (Or.inl rfl) (pe_c c_l_pick hr (by decide) (by rfl) (pa_cons (pv 0) (pa_cons (pv 1) pa_nil))))
      (pss_mid (ps_set (i := 4) sc_l_instruction.nd rfl (Or.inl rfl) (pe_ifExp (pt_cmpR op_eq (pe_c c_l_draw hr (by decide) (by rfl) (pa_cons (pv 0) (pa_cons pe_int pa_nil))) pe_int (nomark _)) (pe_c c_l_draw hr (by decide) (by rfl) (pa_cons (pv 0) (pa_cons pe_int pa_nil))) (pe_c c_l_draw hr (by decide) (by rfl) (pa_cons (pv 0) (pa_cons pe_int pa_nil)))))
      (pss_cons (ps_if (pt_cmpR op_eq (pv 3) pe_str (nomark _))
        (pss_one (ps_ret (pe_tup (pa_cons (pv 3) (pa_cons (pe_c c_l_number hr (by decide) (by rfl) (pa_cons (pv 0) pa_nil)) (pa_cons (pe_c c_l_value hr (by decide) (by rfl) (pa_cons (pv 0) pa_nil)) pa_nil))))))
        pss_nil)
      (pss_cons (ps_if (pt_cmpR op_eq (pv 3) pe_str (nomark _))
        (pss_one (ps_ret (pe_tup (pa_cons (pv 3) (pa_cons (pe_c c_l_number hr (by decide) (by rfl) (pa_cons (pv 0) pa_nil)) (pa_cons (pe_c c_l_number hr (by decide) (by rfl) (pa_cons (pv 0) pa_nil)) (pa_cons (pe_c c_l_numbers hr (by decide) (by rfl) (pa_cons (pv 0) (pa_cons (pv 4) pa_nil))) pa_nil)))))))
        pss_nil)
      (pss_cons (ps_if (pt_cmpR op_eq (pv 3) pe_str (nomark _))
        (pss_one (ps_ret (pe_tup (pa_cons (pv 3) (pa_cons (pe_c c_l_number hr (by decide) (by rfl) (pa_cons (pv 0) pa_nil)) (pa_cons (pe_c c_l_pick hr (by decide) (by rfl) (pa_cons (pv 0) (pa_cons (pv 2) pa_nil))) (pa_cons (pe_c c_l_numbers hr (by decide) (by rfl) (pa_cons (pv 0) (pa_cons (pv 4) pa_nil))) pa_nil)))))))
        pss_nil)
      (pss_cons (ps_if (pt_cmpR op_eq (pv 3) pe_str (nomark _))
        (pss_cons (ps_set (i := 5) sc_l_instruction.nd rfl (Or.inl rfl) (pe_lst pa_nil))
        (pss_cons (ps_for PassesOwn.never rfl (pi_range1 (by rfl) T.range (pa_cons (pe_op op_add pe_int (pe_c c_l_draw hr (by decide) (by rfl) (pa_cons (pv 0) (pa_cons pe_int pa_nil)))) pa_nil)) (pg_name (i := 6) sc_l_instruction.nd rfl (Or.inl rfl))
          (pss_cons (ps_set (i := 7) sc_l_instruction.nd rfl (Or.inl rfl) (pe_c c_l_number hr (by decide) (by rfl) (pa_cons (pv 0) pa_nil)))
          (pss_one (ps_expr (pe_bm PySem.F.plainAttrs_list PySem.F.slot_list_append PySem.F.type_list_append mt_append (pv 5) (pa_cons (pe_tup (pa_cons (pv 7) (pa_cons (pe_c c_l_numbers hr (by decide) (by rfl) (pa_cons (pv 0) (pa_cons (pe_c c_l_draw hr (by decide) (by rfl) (pa_cons (pv 0) (pa_cons pe_int pa_nil))) pa_nil))) pa_nil))) pa_nil))))))
        (pss_one (ps_ret (pe_tup (pa_cons (pv 3) (pa_cons (pe_c c_l_number hr (by decide) (by rfl) (pa_cons (pv 0) pa_nil)) (pa_cons (pe_tupleOf (by rfl) T.tuple (pv 5)) pa_nil))))))))
        pss_nil)
      (pss_cons (ps_if (pt_cmpR op_eq (pv 3) pe_str (nomark _))
        (pss_one (ps_ret (pe_tup (pa_cons (pv 3) (pa_cons (pe_c c_l_number hr (by decide) (by rfl) (pa_cons (pv 0) pa_nil)) (pa_cons (pe_c c_l_numbers hr (by decide) (by rfl) (pa_cons (pv 0) (pa_cons (pv 4) pa_nil))) pa_nil))))))
        pss_nil)
      (pss_cons (ps_if (pt_inW (pv 3) (.cons (.cons (.cons .nil))) (show 3 ≤ sizeLine by decide) (by rfl))
        (pss_one (ps_ret (pe_op op_catA (pe_tup (pa_cons (pv 3) pa_nil)) (pe_c c_l_numbers hr (by decide) (by rfl) (pa_cons (pv 0) (pa_cons pe_int pa_nil))))))
        pss_nil)
      (pss_cons (ps_if (pt_inW (pv 3) (.cons (.cons .nil)) (show 2 ≤ sizeLine by decide) (by rfl))
        (pss_one (ps_ret (pe_op op_catA (pe_tup (pa_cons (pv 3) pa_nil)) (pe_c c_l_numbers hr (by decide) (by rfl) (pa_cons (pv 0) (pa_cons (pe_ifExp (pt_cmpR op_eq (pv 3) pe_str (nomark _)) pe_int pe_int) pa_nil))))))
        pss_nil)
      (pss_one (ps_ret (pe_tup (pa_cons (pv 3) (pa_cons (pe_c c_l_number hr (by decide) (by rfl) (pa_cons (pv 0) pa_nil)) pa_nil)))))))))))))))), ?_⟩
    refine ⟨by show 17 ≤ sizeLine; decide, fun p1 hp1 => ⟨by show 17 ≤ sizeLine; decide, fun p2 hp2 => ?_⟩⟩
    have s1 := same_new (o := .tup (wordsL.map V.str)) hp1
    have s2 := same_new (o := .tup (opsL.map V.str)) hp2
    have sA := s1.trans s2
    have kA := hh.kh sA
    have hA := hh.same sA
    have t1 : SqT K (upd (upd H p1 (.tup (wordsL.map V.str))) p2 (.tup (opsL.map V.str))) p1 (wordsL.map V.str) := .inl (.inl (s2 _ _ upd_same))
    have t2 : SqT K (upd (upd H p1 (.tup (wordsL.map V.str))) p2 (.tup (opsL.map V.str))) p2 (opsL.map V.str) := .inl (.inl upd_same)
    refine ⟨_, rfl, _, rfl, h, c, p1, wordsL.map V.str, rfl, hA, .inr t1, (fun z => by cases z), by show 17 ≤ 1000; decide, fun v H1 mv k1 h1 => ?_⟩
    obtain ⟨wd, mw, rfl⟩ := List.mem_map.mp mv
    have t2' := k1.tup t2
    have kB := kA.trans k1
    clear t1 t2 s1 s2 sA hA kA mv
    refine ⟨fun σ' H' => ∃ m : Nat, m ≤ 8 ∧ σ' = [some (.ref h), some (.ref p1), some (.ref p2), some (.str wd), some (.int (m : Nat)), none, none, none] ∧ Kh h H1 H' ∧ Hand H' h c, ?_, ?_⟩
    · refine ⟨_, rfl, h, c, 2, rfl, h1, by decide, by decide, fun n H2 n0 n1 k2 h2 => ⟨rfl, _, rfl, ?_⟩⟩
      have fin : ∀ (q : Int) (H3 : Hp), 0 ≤ q → q < 9 → Kh h H2 H3 → Hand H3 h c → ∃ m : Nat, m ≤ 8 ∧ (List.set [some (.ref h), some (.ref p1), some (.ref p2), some (.str wd), none, none, none, none] 4 (some (V.int q)) : L2.St) = [some (.ref h), some (.ref p1), some (.ref p2), some (.str wd), some (.int (m : Nat)), none, none, none] ∧ Kh h H1 H3 ∧ Hand H3 h c := fun q H3 q0 q1 k3 h3 => by
        obtain ⟨m, rfl⟩ : ∃ m : Nat, q = (m : Int) := ⟨q.toNat, by omega⟩
        exact ⟨m, by omega, rfl, k2.trans k3, h3⟩
      refine ite2 (fun _ => ?_) (fun _ => ?_)
      · exact ⟨_, rfl, h, c, 9, rfl, h2, by decide, by decide, fun q H3 q0 q1 k3 h3 => fin q H3 q0 q1 k3 h3⟩
      · exact ⟨_, rfl, h, c, 3, rfl, h2, by decide, by decide, fun q H3 q0 q1 k3 h3 => fin q H3 q0 (by omega) k3 h3⟩
    rintro σ' H2 ⟨m, hm, rfl, k2, h2⟩
    have t3 := k2.tup t2'
    have kk : ∀ (r : Rw) (v : V) (H' : Hp), r.ok → wl r.wds ≤ 110 → Kh h H2 H' → Hand H' h c → Dp K H' v r.enc → Q v H' := fun r v H' ok hw k' h' d => k r v H' ok hw ((kB.trans k2).trans k') h' d
    clear kB k2 h1 k1 hh t2' k
    refine ⟨_, rfl, rfl, _, rfl, ?_⟩
    rw [decS]
    by_cases c1 : wd = "value"
    · subst c1
      refine iteT ⟨_, rfl, _, rfl, h, c, rfl, h2, fun n H3 hn k3 h3 => ⟨_, rfl, h, c, rfl, h3, fun it v H4 fit k4 h4 dv => ⟨by show 3 ≤ sizeLine; decide, fun p hp => ?_⟩⟩⟩
      have sp := same_new (o := .tup [.str "value", numv n, v]) hp
      refine kk ⟨"value", [.n n, it]⟩ _ _ ⟨[.num, .val], show shapeOf "value" = _ from by decide +kernel, rfl, hn, fit, trivial⟩ ?_ ((k3.trans k4).trans (h4.kh sp)) (h4.same sp) (.tup (.inl (.inl upd_same)) (.cons (.str _) (.cons (.int _) (.cons (dp_same sp _ _ dv) .nil))))
      show wl ("value" :: nS n :: (it.wds ++ [])) ≤ 110
      have e1 := wl_val fit
      have e2 := wl_num hn
      have e3 : ("value" : Str).length = 5 := by decide +kernel
      rw [List.append_nil, wl_cons, wl_cons, e3]
      omega
    rw [decide_eq_false c1]
    refine iteF ⟨_, rfl, rfl, _, rfl, ?_⟩
    rw [decS]
    have wl48 : ∀ {ks : List Nat}, ks.length = m → (∀ n ∈ ks, n < 100000) → wl (ks.map nS) ≤ 48 := fun {ks} e hn => by
      have := wl_nums hn
      omega
    by_cases c2 : wd = "fun"
    · subst c2
      refine iteT ⟨_, rfl, _, rfl, h, c, rfl, h2, fun n H3 hn k3 h3 => ⟨_, rfl, h, c, rfl, h3, fun n2 H4 hn2 k4 h4 => ⟨_, rfl, _, rfl, h, c, m, rfl, h4, by omega, fun ks t H5 hl hks k5 h5 ht => ⟨by show 4 ≤ sizeLine; decide, fun p hp => ?_⟩⟩⟩⟩
      have sp := same_new (o := .tup [.str "fun", numv n, numv n2, .ref t]) hp
      refine kk ⟨"fun", [.n n, .n n2, .cs ks]⟩ _ _ ⟨[.num, .num, .cells], show shapeOf "fun" = _ from by decide +kernel, rfl, hn, hn2, hks, trivial⟩ ?_ (((k3.trans k4).trans k5).trans (h5.kh sp)) (h5.same sp) (.tup (.inl (.inl upd_same)) (.cons (.str _) (.cons (.int _) (.cons (.int _) (.cons (dp_numsD (sqt_same sp ht)) .nil)))))
      show wl ("fun" :: nS n :: nS n2 :: (ks.map nS ++ [])) ≤ 110
      have e1 := wl48 hl hks
      have e2 := wl_num hn
      have e4 := wl_num hn2
      have e3 : ("fun" : Str).length = 3 := by decide +kernel
      rw [List.append_nil, wl_cons, wl_cons, wl_cons, e3]
      omega
    rw [decide_eq_false c2]
    refine iteF ⟨_, rfl, rfl, _, rfl, ?_⟩
    rw [decS]
    by_cases c3 : wd = "op"
    · subst c3
      refine iteT ⟨_, rfl, _, rfl, h, c, rfl, h2, fun n H3 hn k3 h3 => ⟨_, rfl, _, rfl, h, c, p2, opsL.map V.str, rfl, h3, .inr (k3.tup t3), (fun z => by cases z), by show 17 ≤ 1000; decide, fun v H4 mv k4 h4 => ?_⟩⟩
      obtain ⟨o, mo, rfl⟩ := List.mem_map.mp mv
      refine ⟨_, rfl, _, rfl, h, c, m, rfl, h4, by omega, fun ks t H5 hl hks k5 h5 ht => ⟨by show 4 ≤ sizeLine; decide, fun p hp => ?_⟩⟩
      have sp := same_new (o := .tup [.str "op", numv n, .str o, .ref t]) hp
      have mo2 : o ∈ opsW := of_decide_eq_true ((ops_same o).symm.trans (decide_eq_true mo))
      refine kk ⟨"op", [.n n, .o o, .cs ks]⟩ _ _ ⟨[.num, .op, .cells], show shapeOf "op" = _ from by decide +kernel, rfl, hn, mo2, hks, trivial⟩ ?_ (((k3.trans k4).trans k5).trans (h5.kh sp)) (h5.same sp) (.tup (.inl (.inl upd_same)) (.cons (.str _) (.cons (.int _) (.cons (.str _) (.cons (dp_numsD (sqt_same sp ht)) .nil)))))
      show wl ("op" :: nS n :: o :: (ks.map nS ++ [])) ≤ 110
      have e1 := wl48 hl hks
      have e2 := wl_num hn
      have e4 : o.length ≤ 6 := by
        have key : ∀ x ∈ opsL, x.length ≤ 6 := by decide +kernel
        exact key o mo
      have e3 : ("op" : Str).length = 2 := by decide +kernel
      rw [List.append_nil, wl_cons, wl_cons, wl_cons, e3]
      omega
    rw [decide_eq_false c3]
    refine iteF ⟨_, rfl, rfl, _, rfl, ?_⟩
    rw [decS]
    by_cases c4 : wd = "rec"
    · subst c4
      refine iteT ⟨by show 0 ≤ sizeLine; decide, fun L hL => ?_⟩
      have sL := same_new (o := .lst []) hL
      have hL2 := h2.same sL
      refine ⟨_, rfl, h, c, 3, rfl, hL2, by decide, by decide, fun d H3 d0 d1 k3 h3 => ⟨_, _, rfl, rfl, _, rfl, by omega, by omega, ?_⟩⟩
      obtain ⟨dn, rfl⟩ : ∃ dn : Nat, d = (dn : Int) := ⟨d.toNat, by omega⟩
      have nL : L ≠ h := (h2.there hL).1
      have hL3 : H3 L = some (.lst []) := k3.st _ _ nL upd_same
      have k03 := (h2.kh sL).trans k3
      have eto : ((1 : Int) + (dn : Int)).toNat = dn + 1 := by omega
      rw [eto]
      refine for_it (walk_upto (n := dn + 1)) (fun i σ H' => ∃ (ps : List (Nat × List Nat)) (vs : List V) (v6 v7 : Option V), σ = [some (.ref h), some (.ref p1), some (.ref p2), some (.str "rec"), some (.int (m : Nat)), some (.ref L), v6, v7] ∧ Kh h H2 H' ∧ Hand H' h c ∧ H' L = some (.lst vs) ∧ DpAll K H' vs (ps.map pairD) ∧ ps.length = i ∧ (∀ n ∈ (ps.map pairN).flatten, n < 100000) ∧ ((ps.map pairN).flatten).length ≤ 5 * i) ?_ (fun _ _ _ _ _ => trivial) ?_ ?_
      · exact ⟨[], [], none, none, rfl, k03, h3, hL3, .nil, rfl, (fun n z => by cases z), Nat.le_refl _⟩
      · rintro i v σ H0 H4 hi ⟨ps, vs, v6, v7, rfl, k4, h4, hL4, dps, hpl, hn, hw⟩ ⟨rfl, rfl⟩
        refine ⟨_, rfl, h, c, rfl, h4, fun b H5 hb k5 h5 => ?_⟩
        refine ⟨_, rfl, .inl ⟨rfl, _, .inl (.inl (k5.st _ _ nL hL4))⟩, _, rfl, _, rfl, _, rfl, h, c, 4, rfl, h5, by decide, by decide, fun q H6 q0 q1 k6 h6 => ?_⟩
        obtain ⟨qn, rfl⟩ : ∃ qn : Nat, q = (qn : Int) := ⟨q.toNat, by omega⟩
        refine ⟨h, c, qn, rfl, h6, by omega, fun ks t H7 hl hks k7 h7 ht => ⟨by show 2 ≤ sizeLine; decide, fun p hp => ?_⟩⟩
        have sp := same_new (o := .tup [numv b, .ref t]) hp
        have k57 := (k5.trans k6).trans k7
        have hL8 : upd H7 p (.tup [numv b, .ref t]) L = some (.lst vs) := sp _ _ (k57.st _ _ nL hL4)
        have fl : ∀ l : List (Nat × List Nat), flatDs (l.map pairD) = true := fun l => flatDs_of _ fun d m => by
          obtain ⟨p, _, rfl⟩ := List.mem_map.mp m
          exact flat_pairD p
        refine ⟨L, _, _, rfl, rfl, hL8, Nat.lt_of_le_of_lt (show vs.length ≤ 10 by rw [Cm.DpAll.len dps, List.length_map]; omega) (by decide), ?_⟩
        refine ⟨ps ++ [(b, ks)], vs ++ [.ref p], _, _, rfl, ((k4.trans k57).trans (h7.kh sp)).mut hL, (h7.same sp).puts (h2.there hL).1 (h2.there hL).2, upd_same, ?_, by rw [List.length_append, hpl]; rfl, ?_, ?_⟩
        · rw [List.map_append]
          exact DpAll.snoc (dp_keep (fun _ _ q => sqt_put hL8 q) _ _ (flat_pairD (b, ks)) (.tup (.inl (.inl upd_same)) (.cons (.int _) (.cons (dp_numsD (sqt_same sp ht)) .nil)))) (dps_keep (fun _ _ q => sqt_put hL8 (sqt_same sp (k57.tup q))) _ _ (fl ps) dps)
        · intro x mx
          rw [List.map_append, List.flatten_append] at mx
          rcases List.mem_append.mp mx with mx | mx
          · exact hn x mx
          · have mx' : x ∈ (b :: ks.length :: ks) ++ [] := mx
            rw [List.append_nil] at mx'
            rcases List.mem_cons.mp mx' with e | mx'
            · omega
            · rcases List.mem_cons.mp mx' with e | mx'
              · omega
              · exact hks x mx'
        · rw [List.map_append, List.flatten_append, List.length_append]
          show _ + ((b :: ks.length :: ks) ++ []).length ≤ _
          rw [List.append_nil, List.length_cons, List.length_cons]
          omega
      · rintro σ H4 ⟨ps, vs, v6, v7, rfl, k4, h4, hL4, dps, hpl, hn, hw⟩
        refine ⟨_, rfl, _, rfl, h, c, rfl, h4, fun n H5 hn5 k5 h5 => ⟨_, rfl, .inl ⟨L, vs, rfl, .inl (.inl (k5.st _ _ nL hL4)), fun p hp => ⟨by show 3 ≤ sizeLine; decide, fun p6 hp6 => ?_⟩⟩⟩⟩
        have s5 := same_new (o := .tup vs) hp
        have s6 := same_new (o := .tup [.str "rec", numv n, .ref p]) hp6
        have s56 := s5.trans s6
        have fl : flatDs (ps.map pairD) = true := flatDs_of _ fun d m => by
          obtain ⟨p, _, rfl⟩ := List.mem_map.mp m
          exact flat_pairD p
        have pne : ps ≠ [] := fun z => by rw [z] at hpl; cases hpl
        refine kk ⟨"rec", [.n n, .ps ps]⟩ _ _ ⟨[.num, .pairs], show shapeOf "rec" = _ from by decide +kernel, rfl, hn5, ⟨pne, hn⟩, trivial⟩ ?_ ((k4.trans k5).trans (h5.kh s56)) (h5.same s56) (.tup (.inl (.inl upd_same)) (.cons (.str _) (.cons (.int _) (.cons (.tup (sqt_same s6 (.inl (.inl upd_same))) (dps_keep (fun _ _ q => sqt_same s56 (k5.tup q)) _ _ fl dps)) .nil))))
        show wl ("rec" :: nS n :: ((ps.map pairW).flatten ++ [])) ≤ 110
        have e1 := wl_nums hn
        rw [← pairN_words, List.append_nil, wl_cons, wl_cons]
        have e2 := wl_num hn5
        have e3 : ("rec" : Str).length = 3 := by decide +kernel
        rw [e3]
        omega
    rw [decide_eq_false c4]
    refine iteF ⟨_, rfl, rfl, _, rfl, ?_⟩
    rw [decS]
    by_cases c5 : wd = "call"
    · subst c5
      refine iteT ⟨_, rfl, _, rfl, h, c, rfl, h2, fun n H3 hn k3 h3 => ⟨_, rfl, _, rfl, h, c, m, rfl, h3, by omega, fun ks t H5 hl hks k5 h5 ht => ⟨by show 3 ≤ sizeLine; decide, fun p hp => ?_⟩⟩⟩
      have sp := same_new (o := .tup [.str "call", numv n, .ref t]) hp
      refine kk ⟨"call", [.n n, .cs ks]⟩ _ _ ⟨[.num, .cells], show shapeOf "call" = _ from by decide +kernel, rfl, hn, hks, trivial⟩ ?_ ((k3.trans k5).trans (h5.kh sp)) (h5.same sp) (.tup (.inl (.inl upd_same)) (.cons (.str _) (.cons (.int _) (.cons (dp_numsD (sqt_same sp ht)) .nil))))
      show wl ("call" :: nS n :: (ks.map nS ++ [])) ≤ 110
      have e1 := wl48 hl hks
      have e2 := wl_num hn
      have e3 : ("call" : Str).length = 4 := by decide +kernel
      rw [List.append_nil, wl_cons, wl_cons, e3]
      omega
    rw [decide_eq_false c5]
    refine iteF ⟨_, rfl, rfl, fun H3 s3 => ?_⟩
    have h3 := h2.same s3
    have k3 := h2.kh s3
    have nrow : ∀ (ks : List Nat) (t : Addr) (H' : Hp), shapeOf wd = some (List.replicate ks.length .num) → (∀ n ∈ ks, n < 100000) → ks.length ≤ 3 → Kh h H2 H' → Hand H' h c → SqT K H' t (.str wd :: ks.map numv) → Q (.ref t) H' := fun ks t H' hs hn hl k' h' ht => by
      refine kk ⟨wd, ks.map It5.n⟩ _ _ (ok_nrow hs hn) ?_ k' h' (dp_nrow ht)
      have e1 := wl_nrow (x := wd) hn
      have e2 : wd.length ≤ 6 := by
        have key : ∀ x ∈ wordsL, x.length ≤ 6 := by decide +kernel
        exact key wd mw
      omega
    refine in_strs (l := ["copy", "show", "unless"]) (fun m1 => ?_) (fun m1 => ?_)
    · refine ⟨_, rfl, by show 1 ≤ sizeLine; decide, fun p hp => ⟨_, rfl, h, c, 2, rfl, h3.same (same_new hp), by decide, fun ks t H5 hl hks k5 h5 ht => ?_⟩⟩
      have tp : SqT K (upd H3 p (.tup [.str wd])) p [.str wd] := .inl (.inl upd_same)
      refine cat_any (k5.tup tp) ht (by rw [List.length_map, hl]; show 1 + 2 ≤ sizeLine; decide) fun t6 H6 s6 ht6 => ?_
      have key : ∀ x ∈ (["copy", "show", "unless"] : List Str), shapeOf x = some (List.replicate 2 .num) := by decide +kernel
      exact nrow ks t6 H6 (by rw [hl]; exact key wd m1) hks (by omega) (((k3.trans (h3.kh (same_new hp))).trans k5).trans (h5.kh s6)) (h5.same s6) ht6
    refine ⟨_, rfl, rfl, fun H4 s4 => ?_⟩
    refine in_strs (l := ["mark", "wind"]) (fun m2 => ?_) (fun m2 => ?_)
    · refine ⟨_, rfl, by show 1 ≤ sizeLine; decide, fun p hp => ⟨_, rfl, _, rfl, rfl, _, rfl, ?_⟩⟩
      have h4 := h3.same s4
      have k4 := k3.trans (h3.kh s4)
      have tp : SqT K (upd H4 p (.tup [.str wd])) p [.str wd] := .inl (.inl upd_same)
      have fin : ∀ (j : Nat), j ≤ 3 → shapeOf wd = some (List.replicate j .num) → ∀ (ks : List Nat) (t : Addr) (H5 : Hp), ks.length = j → (∀ n ∈ ks, n < 100000) → Kh h (upd H4 p (.tup [.str wd])) H5 → Hand H5 h c → SqT K H5 t (ks.map numv) → rCatA K (.ref p) (.ref t) H5 Q := fun j hj hs ks t H5 hl hks k5 h5 ht => by
        refine cat_any (k5.tup tp) ht (Nat.le_trans (show _ ≤ 4 by rw [List.length_map, hl, List.length_singleton]; omega) (by decide)) fun t6 H6 s6 ht6 => ?_
        exact nrow ks t6 H6 (by rw [hl]; exact hs) hks (by omega) (((k4.trans (h4.kh (same_new hp))).trans k5).trans (h5.kh s6)) (h5.same s6) ht6
      rw [decS]
      by_cases c6 : wd = "mark"
      · rw [decide_eq_true c6]
        exact iteT ⟨h, c, 0, rfl, h4.same (same_new hp), by decide, fun ks t H5 hl hks k5 h5 ht => fin 0 (by decide) (by rw [c6]; decide +kernel) ks t H5 hl hks k5 h5 ht⟩
      · rw [decide_eq_false c6]
        have c7 : wd = "wind" := by
          rcases List.mem_cons.mp m2 with e | e
          · exact absurd e c6
          · exact List.mem_singleton.mp e
        exact iteF ⟨h, c, 3, rfl, h4.same (same_new hp), by decide, fun ks t H5 hl hks k5 h5 ht => fin 3 (by decide) (by rw [c7]; decide +kernel) ks t H5 hl hks k5 h5 ht⟩
    have h4 := h3.same s4
    have k4 := k3.trans (h3.kh s4)
    have key : ∀ x ∈ wordsL, x = ("value" : Str) ∨ x = ("fun" : Str) ∨ x = ("op" : Str) ∨ x = ("rec" : Str) ∨ x = ("call" : Str) ∨ x ∈ (["copy", "show", "unless"] : List Str) ∨ x ∈ (["mark", "wind"] : List Str) ∨ shapeOf x = some (List.replicate 1 .num) := by decide +kernel
    have hs : shapeOf wd = some (List.replicate 1 .num) := by
      rcases key wd mw with e | e | e | e | e | e | e | e
      · exact absurd e c1
      · exact absurd e c2
      · exact absurd e c3
      · exact absurd e c4
      · exact absurd e c5
      · exact absurd e m1
      · exact absurd e m2
      · exact e
    refine ⟨_, rfl, _, rfl, h, c, rfl, h4, fun n H5 hn k5 h5 => ⟨by show 2 ≤ sizeLine; decide, fun p hp => ?_⟩⟩
    have sp := same_new (o := .tup [.str wd, numv n]) hp
    exact nrow [n] p _ hs (fun x mx => by rw [List.mem_singleton.mp mx]; exact hn) (show 1 ≤ 3 by decide) ((k4.trans k5).trans (h5.kh sp)) (h5.same sp) (.inl (.inl upd_same))
end
end K32

namespace K32
open PySem L2 Cm
/-! ### the law's line of an instruction -/
inductive Kinds : Rw → Prop
  | value (a : Nat) (i : It5) (ha : a < 100000) (hi : fitI .val i) : Kinds ⟨"value", [.n a, i]⟩
  | fn (a b : Nat) (ks : List Nat) (ha : a < 100000) (hb : b < 100000) (hk : ∀ n ∈ ks, n < 100000) : Kinds ⟨"fun", [.n a, .n b, .cs ks]⟩
  | op (a : Nat) (o : Str) (ks : List Nat) (ha : a < 100000) (ho : o ∈ opsW) (hk : ∀ n ∈ ks, n < 100000) : Kinds ⟨"op", [.n a, .o o, .cs ks]⟩
  | rc (a : Nat) (ps : List (Nat × List Nat)) (ha : a < 100000) (hp : ∀ n ∈ (ps.map pairN).flatten, n < 100000) : Kinds ⟨"rec", [.n a, .ps ps]⟩
  | call (a : Nat) (ks : List Nat) (ha : a < 100000) (hk : ∀ n ∈ ks, n < 100000) : Kinds ⟨"call", [.n a, .cs ks]⟩
  | nums (x : Str) (ks : List Nat) (h1 : x ≠ "value") (h2 : x ≠ "fun") (h3 : x ≠ "op") (h4 : x ≠ "rec") (h5 : x ≠ "call") (hx : x.length ≤ 6) (hk : ∀ n ∈ ks, n < 100000) : Kinds ⟨x, ks.map It5.n⟩
theorem fits_inv : ∀ {k : Nat} {is : List It5}, fits (List.replicate k .num) is → ∃ ks : List Nat, is = ks.map It5.n ∧ ∀ n ∈ ks, n < 100000
  | 0, [], _ => ⟨[], rfl, fun n m => by cases m⟩
  | 0, _ :: _, h => h.elim
  | k + 1, [], h => h.elim
  | k + 1, i :: is, h => by
    have h' : fitI .num i ∧ fits (List.replicate k .num) is := h
    obtain ⟨ks, rfl, hk⟩ := fits_inv h'.2
    cases i with
    | n a =>
      refine ⟨a :: ks, rfl, fun n m => ?_⟩
      rcases List.mem_cons.mp m with rfl | m
      · exact h'.1
      · exact hk n m
    | _ => exact h'.1.elim
theorem ok_kinds {r : Rw} (h : r.ok) : Kinds r := by
  obtain ⟨ss, es, _, hf⟩ := h
  obtain ⟨x, its⟩ := r
  replace es : shapeOf x = some ss := es
  replace hf : fits ss its := hf
  have one : ∀ {s : Sh} {l : List Sh} {is : List It5}, fits (s :: l) is → ∃ i is', is = i :: is' ∧ fitI s i ∧ fits l is' := fun {s l is} h => by
    cases is with
    | nil => exact h.elim
    | cons i is => exact ⟨i, is, rfl, h.1, h.2⟩
  have none_ : ∀ {is : List It5}, fits [] is → is = [] := fun {is} h => by
    cases is with
    | nil => rfl
    | cons i is => exact h.elim
  have num : ∀ {i : It5}, fitI .num i → ∃ a, i = .n a ∧ a < 100000 := fun {i} h => by
    cases i with
    | n a => exact ⟨a, rfl, h⟩
    | _ => exact h.elim
  have cel : ∀ {i : It5}, fitI .cells i → ∃ ks, i = .cs ks ∧ ∀ n ∈ ks, n < 100000 := fun {i} h => by
    cases i with
    | cs a => exact ⟨a, rfl, h⟩
    | _ => exact h.elim
  by_cases c1 : x = "value"
  · subst c1
    obtain rfl : ss = [.num, .val] := Option.some.inj (es.symm.trans (by decide +kernel))
    obtain ⟨i1, r1, rfl, f1, h1⟩ := one hf
    obtain ⟨i2, r2, rfl, f2, h2⟩ := one h1
    obtain rfl := none_ h2
    obtain ⟨a, rfl, ha⟩ := num f1
    exact .value a i2 ha f2
  by_cases c2 : x = "fun"
  · subst c2
    obtain rfl : ss = [.num, .num, .cells] := Option.some.inj (es.symm.trans (by decide +kernel))
    obtain ⟨i1, r1, rfl, f1, h1⟩ := one hf
    obtain ⟨i2, r2, rfl, f2, h2⟩ := one h1
    obtain ⟨i3, r3, rfl, f3, h3⟩ := one h2
    obtain rfl := none_ h3
    obtain ⟨a, rfl, ha⟩ := num f1
    obtain ⟨b, rfl, hb⟩ := num f2
    obtain ⟨ks, rfl, hk⟩ := cel f3
    exact .fn a b ks ha hb hk
  by_cases c3 : x = "op"
  · subst c3
    obtain rfl : ss = [.num, .op, .cells] := Option.some.inj (es.symm.trans (by decide +kernel))
    obtain ⟨i1, r1, rfl, f1, h1⟩ := one hf
    obtain ⟨i2, r2, rfl, f2, h2⟩ := one h1
    obtain ⟨i3, r3, rfl, f3, h3⟩ := one h2
    obtain rfl := none_ h3
    obtain ⟨a, rfl, ha⟩ := num f1
    obtain ⟨ks, rfl, hk⟩ := cel f3
    cases i2 with
    | o w => exact .op a w ks ha f2 hk
    | _ => exact f2.elim
  by_cases c4 : x = "rec"
  · subst c4
    obtain rfl : ss = [.num, .pairs] := Option.some.inj (es.symm.trans (by decide +kernel))
    obtain ⟨i1, r1, rfl, f1, h1⟩ := one hf
    obtain ⟨i2, r2, rfl, f2, h2⟩ := one h1
    obtain rfl := none_ h2
    obtain ⟨a, rfl, ha⟩ := num f1
    cases i2 with
    | ps w => exact .rc a w ha f2.2
    | _ => exact f2.elim
  by_cases c5 : x = "call"
  · subst c5
    obtain rfl : ss = [.num, .cells] := Option.some.inj (es.symm.trans (by decide +kernel))
    obtain ⟨i1, r1, rfl, f1, h1⟩ := one hf
    obtain ⟨i2, r2, rfl, f2, h2⟩ := one h1
    obtain rfl := none_ h2
    obtain ⟨a, rfl, ha⟩ := num f1
    obtain ⟨ks, rfl, hk⟩ := cel f2
    exact .call a ks ha hk
  have hx : x ∈ shapesL.map (·.1) := by
    refine Classical.byContradiction fun nx => ?_
    rw [shape_out nx] at es
    cases es
  obtain ⟨r2, hr2, er2⟩ := List.mem_map.mp hx
  have e2 := shape_in r2 hr2
  rw [er2, es] at e2
  obtain rfl : ss = r2.2 := Option.some.inj e2
  have key : ∀ p ∈ shapesL, (p.1 = ("value" : Str) ∨ p.1 = ("fun" : Str) ∨ p.1 = ("op" : Str) ∨ p.1 = ("rec" : Str) ∨ p.1 = ("call" : Str) ∨ p.2 = List.replicate p.2.length .num) ∧ p.1.length ≤ 6 := by decide +kernel
  obtain ⟨k1, k2⟩ := key r2 hr2
  rw [er2] at k1 k2
  rcases k1 with e | e | e | e | e | e
  · exact absurd e c1
  · exact absurd e c2
  · exact absurd e c3
  · exact absurd e c4
  · exact absurd e c5
  · rw [e] at hf
    obtain ⟨ks, rfl, hk⟩ := fits_inv hf
    exact .nums x ks c1 c2 c3 c4 c5 k2 hk
theorem join_two (a b : Str) (ps : List Str) : Str.join " " ((a ++ " " ++ b) :: ps) = Str.join " " (a :: b :: ps) := by
  apply cs_inj
  rw [show cs (Str.join " " ((a ++ " " ++ b) :: ps)) = TL.tl (Str.join " " ((a ++ " " ++ b) :: ps)) from rfl, TL.tl_join, show cs (Str.join " " (a :: b :: ps)) = TL.tl (Str.join " " (a :: b :: ps)) from rfl, TL.tl_join, List.map_cons, List.map_cons, List.map_cons]
  have e : TL.tl (a ++ " " ++ b) = TL.tl a ++ (TL.tl " " ++ TL.tl b) := by rw [TL.tl_append, TL.tl_append, List.append_assoc]
  rw [e, joinL_cons]
  cases ps with
  | nil => rfl
  | cons p ps =>
    rw [List.map_cons, joinL_cons, joinL_cons]
    simp
theorem log_int {i : Int} (h : i.natAbs ≤ 1000000000) : i.natAbs.log2 < 1920 := by
  by_cases z : i.natAbs = 0
  · rw [z]; decide
  · exact (Nat.log2_lt z).mpr (Nat.lt_of_le_of_lt h (by decide))
theorem wl_len (ps : List Str) : ps.length ≤ wl ps := Nat.le_add_left _ _
theorem join_one (a : Str) : Str.join " " [a] = a := by
  apply cs_inj
  rw [show cs (Str.join " " [a]) = TL.tl (Str.join " " [a]) from rfl, TL.tl_join]
  rfl
def spLine (K : PySem.W.Frag) : Sp := fun vs H Q _ => ∃ (v : V) (r : Rw), vs = [v] ∧ Dp K H v r.enc ∧ r.ok ∧ wl r.wds ≤ 110 ∧ ∀ H', Same H H' → Q (.str (Str.join " " r.wds)) H'
section
variable {P : Program} {w : World} {K : PySem.W.Frag} {mg : Str → Option Value} {base : Heap}
abbrev s_l_line : Stmt := top 58
abbrev N_l_line : List Str := ["_law_row", "_law_word", "_law_numbers_here", "_law_body", "_law_cells"]
theorem sc_l_line : FnScope N_l_line ["_law_row"] (defScope s_l_line) := ⟨rfl, rfl, rfl, by decide +kernel, rfl, by decide +kernel, by decide +kernel⟩
theorem ok_l_line (T : Txt mg) (c_l_joined : Cl P w K mg base 1 "_law_joined" (spJoined K)) (D : At K mg "_law_line" s_l_line ["_law_row"]) : Cl P w K mg base 2 "_law_line" (spLine K) := by
  refine cl_of D sc_l_line (fun vs H Q E h => ?_) fun f cdv A outer s H vs Q E hr h => ?_
  · obtain ⟨v, r, rfl, _⟩ := h
    rfl
  · obtain ⟨v, r, rfl, dv, ok, hw, k⟩ := h
    refine ⟨_, (pss_cons (ps_set (i := 1) sc_l_line.nd rfl (Or.inl rfl) (pe_ix ix_tup (pv 0) pe_int (fun _ _ => rfl)))
      (pss_cons (ps_if (pt_cmpR op_eq (pv 1) pe_str (nomark _))
        (pss_one (ps_ret (pe_op op_add_str (pe_op op_add_str (pe_op op_add_str pe_str (pe_callTy call_str_int (by rfl) T.str (by decide +kernel) (pa_cons (pe_ix ix_tup (pv 0) pe_int (fun _ _ => rfl)) pa_nil))) pe_str) (pe_ifExp (pt_val (pe_callB call_isi (by rfl) T.isinstance (by decide +kernel) (pa_cons (pe_ix ix_tup (pv 0) pe_int (fun _ _ => rfl)) (pa_cons (pe_bltn (v := .ty "int") (by rfl) T.int (by rfl) (show RelV (.ty "int") (.type "int") from rfl)) pa_nil)))) (pe_callTy call_str_int (by rfl) T.str (by decide +kernel) (pa_cons (pe_ix ix_tup (pv 0) pe_int (fun _ _ => rfl)) pa_nil)) (pe_ix ix_tup (pe_ix ix_tup (pv 0) pe_int (fun _ _ => rfl)) pe_int (fun _ _ => rfl))))))
        pss_nil)
      (pss_cons (ps_if (pt_cmpR op_eq (pv 1) pe_str (nomark _))
        (pss_one (ps_ret (pe_c c_l_joined hr (by decide) (by rfl) (pa_cons pe_str (pa_cons (pe_op op_catA (pe_slice sl_tupA (pv 0) (po_some pe_int) (po_some pe_int)) (pe_ix ix_tup (pv 0) pe_int (fun _ _ => rfl))) pa_nil)))))
        pss_nil)
      (pss_cons (ps_if (pt_cmpR op_eq (pv 1) pe_str (nomark _))
        (pss_one (ps_ret (pe_c c_l_joined hr (by decide) (by rfl) (pa_cons (pe_op op_add_str (pe_op op_add_str (pe_op op_add_str pe_str (pe_callTy call_str_int (by rfl) T.str (by decide +kernel) (pa_cons (pe_ix ix_tup (pv 0) pe_int (fun _ _ => rfl)) pa_nil))) pe_str) (pe_ix ix_tup (pv 0) pe_int (fun _ _ => rfl))) (pa_cons (pe_ix ix_tup (pv 0) pe_int (fun _ _ => rfl)) pa_nil)))))
        pss_nil)
      (pss_cons (ps_if (pt_cmpR op_eq (pv 1) pe_str (nomark _))
        (pss_cons (ps_set (i := 2) sc_l_line.nd rfl (Or.inl rfl) (pe_lst (pa_cons (pe_ix ix_tup (pv 0) pe_int (fun _ _ => rfl)) pa_nil)))
        (pss_cons (ps_for PassesOwn.never rfl (pi_tup (pe_ix ix_tup (pv 0) pe_int (fun _ _ => rfl))) (pg_tup (by rfl) (pgs_cons (pg_name (i := 3) sc_l_line.nd rfl (Or.inl rfl)) (pgs_cons (pg_name (i := 4) sc_l_line.nd rfl (Or.inl rfl)) pgs_nil)))
          (pss_one (ps_set (i := 2) sc_l_line.nd rfl (Or.inl rfl) (pe_op op_cat (pe_op op_cat (pv 2) (pe_lst (pa_cons (pv 3) (pa_cons (pe_callB call_len_seq (by rfl) T.len (by decide +kernel) (pa_cons (pv 4) pa_nil)) pa_nil)))) (pe_callTy call_list_of (by rfl) T.list (by decide +kernel) (pa_cons (pv 4) pa_nil))))))
        (pss_one (ps_ret (pe_c c_l_joined hr (by decide) (by rfl) (pa_cons pe_str (pa_cons (pv 2) pa_nil)))))))
        pss_nil)
      (pss_cons (ps_if (pt_cmpR op_eq (pv 1) pe_str (nomark _))
        (pss_one (ps_ret (pe_c c_l_joined hr (by decide) (by rfl) (pa_cons pe_str (pa_cons (pe_op op_catA (pe_tup (pa_cons (pe_ix ix_tup (pv 0) pe_int (fun _ _ => rfl)) pa_nil)) (pe_ix ix_tup (pv 0) pe_int (fun _ _ => rfl))) pa_nil)))))
        pss_nil)
      (pss_one (ps_ret (pe_c c_l_joined hr (by decide) (by rfl) (pa_cons (pv 1) (pa_cons (pe_slice sl_tupA (pv 0) (po_some pe_int) po_none) pa_nil))))))))))), ?_⟩
    obtain ⟨t, its, rfl, ht, hits⟩ : ∃ t its, v = .ref t ∧ SqT K H t (.str r.w :: its) ∧ DpAll K H its (r.its.map It5.enc) := by
      cases dv with
      | tup a b =>
        cases b with
        | cons b1 b2 =>
          cases b1
          exact ⟨_, _, rfl, a, b2⟩
    refine ⟨_, rfl, t, _, _, _, rfl, rfl, ht, atI_nat (j := 0) rfl, _, rfl, rfl, _, rfl, ?_⟩
    rw [decS]
    have kj : ∀ ws H', ws = r.wds → Same H H' → Q (.str (Str.join " " ws)) H' := fun ws H' e s => by rw [e]; exact k H' s
    have e1 : (" " : Str).length = 1 := by decide +kernel
    clear k
    cases ok_kinds ok with
    | value a i ha hi =>
      obtain ⟨v2, rfl, hv2⟩ : ∃ v2, its = [numv a, v2] ∧ Dp K H v2 i.enc := by
        cases hits with
        | cons d1 d2 =>
          cases d2 with
          | cons d3 d4 =>
            cases d4
            cases d1
            exact ⟨_, rfl, d3⟩
      rw [decide_eq_true rfl]
      have ev : ("value " : Str).length = 6 := by decide +kernel
      have ln := nS_len ha
      refine iteT ⟨_, rfl, t, _, _, _, rfl, rfl, ht, atI_nat (j := 1) rfl, _, rfl, log_small (Nat.lt_trans ha (by decide)), _, _, rfl, rfl, ?_, _, _, rfl, rfl, ?_, ?_⟩
      · show ("value " : Str).length + (nS a).length ≤ sizeLine
        exact Nat.le_trans (show _ ≤ 100 by omega) (by decide)
      · show ("value " ++ nS a : Str).length + (" " : Str).length ≤ sizeLine
        rw [len_app]
        exact Nat.le_trans (show _ ≤ 100 by omega) (by decide)
      · have fin : ∀ x : Str, i.wds = [x] → x.length ≤ 20 → ∃ i j, V.str ("value " ++ nS a ++ " ") = .str i ∧ V.str x = .str j ∧ i.length + j.length ≤ sizeLine ∧ Q (.str (i ++ j)) H := fun x e hx => by
          refine ⟨_, _, rfl, rfl, ?_, ?_⟩
          · rw [len_app, len_app]
            exact Nat.le_trans (show _ ≤ 100 by omega) (by decide)
          · have e3 : ("value " ++ nS a ++ " " ++ x : Str) = Str.join " " (("value" : Str) :: nS a :: [x]) := by
              rw [← join_two, ← join_two, join_one]
              rfl
            rw [e3]
            exact kj _ _ (by show _ = ("value" : Str) :: nS a :: (i.wds ++ []); rw [e]; rfl) (Same.refl _)
        cases i with
        | v j =>
          cases hv2
          refine ⟨_, rfl, t, _, _, _, rfl, rfl, ht, atI_nat (j := 2) rfl, _, _, _, _, true, rfl, .ty _, .base (.int _), rfl, _, rfl, ?_⟩
          exact iteT ⟨_, rfl, t, _, _, _, rfl, rfl, ht, atI_nat (j := 2) rfl, _, rfl, log_int hi, fin (numS j) rfl (Nat.le_trans (num_len hi) (by decide))⟩
        | c x =>
          obtain ⟨tc, rfl, hc⟩ : ∃ tc, v2 = .ref tc ∧ SqT K H tc [.str x] := by
            cases (show Dp K H v2 (.tuple [.str x]) from hv2) with
            | tup a b =>
              cases b with
              | cons b1 b2 =>
                cases b1
                cases b2
                exact ⟨_, rfl, a⟩
          have lx : x.length ≤ 20 := by
            have key : ∀ w ∈ consW, w.length ≤ 20 := by decide +kernel
            exact key x hi
          exact ⟨_, rfl, t, _, _, _, rfl, rfl, ht, atI_nat (j := 2) rfl, _, _, _, _, false, rfl, .ty _, tyx_tup hc, rfl, _, rfl, iteF ⟨_, rfl, t, _, _, _, rfl, rfl, ht, atI_nat (j := 2) rfl, tc, _, _, _, rfl, rfl, hc, atI_nat (j := 0) rfl, fin x rfl lx⟩⟩
        | _ => exact hi.elim
    | fn a b ks ha hb hk =>
      obtain ⟨v3, rfl, tk, rfl, hv3⟩ : ∃ v3, its = [numv a, numv b, v3] ∧ ∃ tk, v3 = .ref tk ∧ SqT K H tk (ks.map numv) := by
        cases hits with
        | cons d1 d2 =>
          cases d2 with
          | cons d3 d4 =>
            cases d4 with
            | cons d5 d6 =>
              cases d6
              cases d1
              cases d3
              exact ⟨_, rfl, numsD_inv d5⟩
      rw [decide_eq_false (show ¬ (("fun" : Str) = "value") by decide)]
      refine iteF ⟨_, rfl, rfl, _, rfl, ?_⟩
      rw [decS, decide_eq_true rfl]
      have hkl : ks.length ≤ 110 := by
        have e := wl_len (⟨"fun", [.n a, .n b, .cs ks]⟩ : Rw).wds
        have e2 : (⟨"fun", [.n a, .n b, .cs ks]⟩ : Rw).wds = ("fun" : Str) :: nS a :: nS b :: (ks.map nS ++ []) := rfl
        rw [e2, List.append_nil, List.length_cons, List.length_cons, List.length_cons, List.length_map] at e
        rw [e2, List.append_nil] at hw
        omega
      refine iteT ⟨_, rfl, _, rfl, _, rfl, t, _, rfl, ht, fun q => absurd q.1 (by show ¬ (1 = 0); decide), fun _ p hp => ?_⟩
      have sp := same_new (o := .tup [numv a, numv b]) hp
      refine ⟨_, rfl, t, _, _, _, rfl, rfl, sqt_same sp ht, atI_nat (j := 3) rfl, ?_⟩
      refine cat_any (.inl (.inl upd_same)) (sqt_same sp hv3) (Nat.le_trans (show _ ≤ 200 by rw [List.length_map]; show 2 + _ ≤ 200; omega) (by decide)) fun t2 H2 s2 ht2 => ?_
      refine ⟨"fun", t2, a :: b :: ks, rfl, .inr ht2, by decide +kernel, by rw [List.length_cons, List.length_cons]; omega, fun n m => ?_, fun H3 s3 => kj _ _ ?_ ((sp.trans s2).trans s3)⟩
      · rcases List.mem_cons.mp m with rfl | m
        · exact ha
        · rcases List.mem_cons.mp m with rfl | m
          · exact hb
          · exact hk n m
      · show ("fun" : Str) :: nS a :: nS b :: ks.map nS = ("fun" : Str) :: nS a :: nS b :: (ks.map nS ++ [])
        rw [List.append_nil]
    | op a o ks ha ho hk =>
      obtain ⟨v3, rfl, tk, rfl, hv3⟩ : ∃ v3, its = [numv a, .str o, v3] ∧ ∃ tk, v3 = .ref tk ∧ SqT K H tk (ks.map numv) := by
        cases hits with
        | cons d1 d2 =>
          cases d2 with
          | cons d3 d4 =>
            cases d4 with
            | cons d5 d6 =>
              cases d6
              cases d1
              cases d3
              exact ⟨_, rfl, numsD_inv d5⟩
      rw [decide_eq_false (show ¬ (("op" : Str) = "value") by decide)]
      refine iteF ⟨_, rfl, rfl, _, rfl, ?_⟩
      rw [decS, decide_eq_false (show ¬ (("op" : Str) = "fun") by decide)]
      refine iteF ⟨_, rfl, rfl, _, rfl, ?_⟩
      rw [decS, decide_eq_true rfl]
      have hkl : ks.length ≤ 110 := by
        have e := wl_len (⟨"op", [.n a, .o o, .cs ks]⟩ : Rw).wds
        have e2 : (⟨"op", [.n a, .o o, .cs ks]⟩ : Rw).wds = ("op" : Str) :: nS a :: o :: (ks.map nS ++ []) := rfl
        rw [e2, List.append_nil, List.length_cons, List.length_cons, List.length_cons, List.length_map] at e
        rw [e2, List.append_nil] at hw
        omega
      have ln := nS_len ha
      have lo : o.length ≤ 20 := by
        have key : ∀ w ∈ opsW, w.length ≤ 20 := by decide +kernel
        exact key o ho
      have ev : ("op " : Str).length = 3 := by decide +kernel
      refine iteT ⟨_, rfl, t, _, _, _, rfl, rfl, ht, atI_nat (j := 1) rfl, _, rfl, log_small (Nat.lt_trans ha (by decide)), _, _, rfl, rfl, ?_, _, _, rfl, rfl, ?_, _, rfl, t, _, _, _, rfl, rfl, ht, atI_nat (j := 2) rfl, _, _, rfl, rfl, ?_, _, rfl, t, _, _, _, rfl, rfl, ht, atI_nat (j := 3) rfl, ?_⟩
      · show ("op " : Str).length + (nS a).length ≤ sizeLine
        exact Nat.le_trans (show _ ≤ 100 by omega) (by decide)
      · show ("op " ++ nS a : Str).length + (" " : Str).length ≤ sizeLine
        rw [len_app]
        exact Nat.le_trans (show _ ≤ 100 by omega) (by decide)
      · show ("op " ++ nS a ++ " " : Str).length + o.length ≤ sizeLine
        rw [len_app, len_app]
        exact Nat.le_trans (show _ ≤ 100 by omega) (by decide)
      · refine ⟨"op " ++ nS a ++ " " ++ o, tk, ks, rfl, .inr hv3, ?_, by omega, hk, fun H3 s3 => ?_⟩
        · rw [len_app, len_app, len_app]
          omega
        · have e3 : Str.join " " (("op " ++ nS a ++ " " ++ o : Str) :: ks.map nS) = Str.join " " (("op" : Str) :: nS a :: o :: ks.map nS) := by
            rw [← join_two, ← join_two]
            rfl
          rw [e3]
          refine kj _ _ ?_ s3
          show ("op" : Str) :: nS a :: o :: ks.map nS = ("op" : Str) :: nS a :: o :: (ks.map nS ++ [])
          rw [List.append_nil]
    | rc a ps ha hp =>
      obtain ⟨v3, rfl, tq, us, rfl, htq, hus⟩ : ∃ v3, its = [numv a, v3] ∧ ∃ tq us, v3 = .ref tq ∧ SqT K H tq us ∧ DpAll K H us (ps.map pairD) := by
        cases hits with
        | cons d1 d2 =>
          cases d2 with
          | cons d5 d6 =>
            cases d6
            cases d1
            exact ⟨_, rfl, dp_pairs_at (show Dp K H _ (pairsD ps) from d5)⟩
      rw [decide_eq_false (show ¬ (("rec" : Str) = "value") by decide)]
      refine iteF ⟨_, rfl, rfl, _, rfl, ?_⟩
      rw [decS, decide_eq_false (show ¬ (("rec" : Str) = "fun") by decide)]
      refine iteF ⟨_, rfl, rfl, _, rfl, ?_⟩
      rw [decS, decide_eq_false (show ¬ (("rec" : Str) = "op") by decide)]
      refine iteF ⟨_, rfl, rfl, _, rfl, ?_⟩
      rw [decS, decide_eq_true rfl]
      have e2 : (⟨"rec", [.n a, .ps ps]⟩ : Rw).wds = ("rec" : Str) :: nS a :: ((ps.map pairN).flatten).map nS := by
        show ("rec" : Str) :: nS a :: ((ps.map pairW).flatten ++ []) = _
        rw [List.append_nil, pairN_words]
      have hkl : ((ps.map pairN).flatten).length ≤ 110 := by
        have e := wl_len (⟨"rec", [.n a, .ps ps]⟩ : Rw).wds
        rw [e2, List.length_cons, List.length_cons, List.length_map] at e
        rw [e2] at hw
        omega
      have hul : us.length = ps.length := by rw [Cm.DpAll.len hus, List.length_map]
      refine iteT ⟨_, rfl, t, _, _, _, rfl, rfl, ht, atI_nat (j := 1) rfl, by show 1 ≤ sizeLine; decide, fun L hL => ?_⟩
      have sL := same_new (o := .lst [numv a]) hL
      refine ⟨_, rfl, t, _, _, _, rfl, rfl, sqt_same sL ht, atI_nat (j := 2) rfl, tq, rfl, ⟨_, sqt_same sL htq⟩, ?_⟩
      refine for_it (walk_tup (K := K) (a := tq) (xs := us)) (fun j σ H' => ∃ (L : Addr) (ns : List Nat) (v3 v4 : Option V), σ = [some (.ref t), some (.str "rec"), some (.ref L), v3, v4] ∧ Same H H' ∧ H' L = some (.lst (ns.map numv)) ∧ ns = a :: ((ps.take j).map pairN).flatten) ?_ (fun j σ H' _ z => ?_) ?_ ?_
      · exact ⟨L, [a], none, none, rfl, sL, upd_same, rfl⟩
      · obtain ⟨_, _, _, _, _, z, _⟩ := z
        exact sqt_same z htq
      · rintro j v σ H0 H3 hj ⟨L, ns, v3, v4, rfl, s3, hL3, ens⟩ ⟨rfl, ev⟩
        obtain ⟨d, ed, hd5⟩ := Cm.DpAll.atV hus ev
        obtain ⟨p, ep, rfl⟩ : ∃ p, ps[j]? = some p ∧ d = pairD p := by
          rw [List.getElem?_map] at ed
          obtain ⟨p, ep, e⟩ := Option.map_eq_some_iff.mp ed
          exact ⟨p, ep, e.symm⟩
        obtain ⟨tp, c, rfl, htp, hc⟩ := dp_pair_inv (dp_same s3 _ _ hd5)
        have nx := flat_next pairN ep
        have hl1 := flat_take pairN ps (j + 1)
        rw [nx, List.length_append] at hl1
        have hpl : (pairN p).length = p.2.length + 2 := rfl
        have hnl : ns.length = ((ps.take j).map pairN).flatten.length + 1 := by rw [ens]; rfl
        refine ⟨tp, _, rfl, htp, rfl, _, _, rfl, _, _, rfl, rfl, ?_⟩
        refine ⟨_, rfl, _, rfl, _, rfl, c, _, rfl, .inr hc, by show 2 ≤ sizeLine; decide, fun p1 hp1 => ?_⟩
        have s4 := same_new (o := .lst [numv p.1, .int ((p.2.map numv).length : Nat)]) hp1
        refine ⟨L, p1, _, _, rfl, rfl, s4 _ _ hL3, upd_same, Nat.le_trans (show _ ≤ 500 by rw [List.length_map]; show ns.length + 2 ≤ 500; omega) (by decide), fun p2 hp2 => ?_⟩
        have s5 := same_new (o := .lst (ns.map numv ++ [numv p.1, .int ((p.2.map numv).length : Nat)])) hp2
        refine ⟨_, rfl, c, _, rfl, .inr (sqt_same (s4.trans s5) hc), fun p3 hp3 => ?_⟩
        have s6 := same_new (o := .lst (p.2.map numv)) hp3
        refine ⟨p2, p3, _, _, rfl, rfl, s6 _ _ upd_same, upd_same, Nat.le_trans (show _ ≤ 500 by rw [List.length_append, List.length_map, List.length_map]; show ns.length + 2 + _ ≤ 500; omega) (by decide), fun p4 hp4 => ?_⟩
        have s7 := same_new (o := .lst (ns.map numv ++ [numv p.1, .int ((p.2.map numv).length : Nat)] ++ p.2.map numv)) hp4
        refine ⟨p4, ns ++ pairN p, _, _, rfl, (((s3.trans s4).trans s5).trans s6).trans s7, ?_, ?_⟩
        · rw [upd_same, List.map_append]
          have e : (pairN p).map numv = [numv p.1, .int ((p.2.map numv).length : Nat)] ++ p.2.map numv := by
            rw [List.length_map]
            rfl
          rw [e, List.append_assoc]
        · rw [nx, ens]
          rfl
      · rintro σ H3 ⟨L, ns, v3, v4, rfl, s3, hL3, ens⟩
        rw [List.take_of_length_le (by rw [hul]; exact Nat.le_refl _)] at ens
        subst ens
        refine ⟨_, rfl, "rec", L, _, rfl, .inl (.inl (.inl hL3)), by decide +kernel, by rw [List.length_cons]; omega, fun n m => ?_, fun H4 s4 => kj _ _ ?_ (s3.trans s4)⟩
        · rcases List.mem_cons.mp m with rfl | m
          · exact ha
          · exact hp n m
        · rw [e2]
          rfl
    | call a ks ha hk =>
      obtain ⟨v3, rfl, tk, rfl, hv3⟩ : ∃ v3, its = [numv a, v3] ∧ ∃ tk, v3 = .ref tk ∧ SqT K H tk (ks.map numv) := by
        cases hits with
        | cons d1 d2 =>
          cases d2 with
          | cons d5 d6 =>
            cases d6
            cases d1
            exact ⟨_, rfl, numsD_inv d5⟩
      rw [decide_eq_false (show ¬ (("call" : Str) = "value") by decide)]
      refine iteF ⟨_, rfl, rfl, _, rfl, ?_⟩
      rw [decS, decide_eq_false (show ¬ (("call" : Str) = "fun") by decide)]
      refine iteF ⟨_, rfl, rfl, _, rfl, ?_⟩
      rw [decS, decide_eq_false (show ¬ (("call" : Str) = "op") by decide)]
      refine iteF ⟨_, rfl, rfl, _, rfl, ?_⟩
      rw [decS, decide_eq_false (show ¬ (("call" : Str) = "rec") by decide)]
      refine iteF ⟨_, rfl, rfl, _, rfl, ?_⟩
      rw [decS, decide_eq_true rfl]
      have hkl : ks.length ≤ 110 := by
        have e := wl_len (⟨"call", [.n a, .cs ks]⟩ : Rw).wds
        have e2 : (⟨"call", [.n a, .cs ks]⟩ : Rw).wds = ("call" : Str) :: nS a :: (ks.map nS ++ []) := rfl
        rw [e2, List.append_nil, List.length_cons, List.length_cons, List.length_map] at e
        rw [e2, List.append_nil] at hw
        omega
      refine iteT ⟨_, rfl, t, _, _, _, rfl, rfl, ht, atI_nat (j := 1) rfl, by show 1 ≤ sizeLine; decide, fun p hp => ?_⟩
      have sp := same_new (o := .tup [numv a]) hp
      refine ⟨_, rfl, t, _, _, _, rfl, rfl, sqt_same sp ht, atI_nat (j := 2) rfl, ?_⟩
      refine cat_any (.inl (.inl upd_same)) (sqt_same sp hv3) (Nat.le_trans (show _ ≤ 200 by rw [List.length_map]; show 1 + _ ≤ 200; omega) (by decide)) fun t2 H2 s2 ht2 => ?_
      refine ⟨"call", t2, a :: ks, rfl, .inr ht2, by decide +kernel, by rw [List.length_cons]; omega, fun n m => ?_, fun H3 s3 => kj _ _ ?_ ((sp.trans s2).trans s3)⟩
      · rcases List.mem_cons.mp m with rfl | m
        · exact ha
        · exact hk n m
      · show ("call" : Str) :: nS a :: ks.map nS = ("call" : Str) :: nS a :: (ks.map nS ++ [])
        rw [List.append_nil]
    | nums x ks h1 h2 h3 h4 h5 hx hk =>
      have eits : its = ks.map numv := by
        rw [enc_nums] at hits
        exact dpAll_inv (f := numD) (fv := numv) (fun _ _ _ h => numD_inv h) hits
      subst eits
      rw [decide_eq_false (show ¬ (x = "value") from h1)]
      refine iteF ⟨_, rfl, rfl, _, rfl, ?_⟩
      rw [decS, decide_eq_false (show ¬ (x = "fun") from h2)]
      refine iteF ⟨_, rfl, rfl, _, rfl, ?_⟩
      rw [decS, decide_eq_false (show ¬ (x = "op") from h3)]
      refine iteF ⟨_, rfl, rfl, _, rfl, ?_⟩
      rw [decS, decide_eq_false (show ¬ (x = "rec") from h4)]
      refine iteF ⟨_, rfl, rfl, _, rfl, ?_⟩
      rw [decS, decide_eq_false (show ¬ (x = "call") from h5)]
      have e2 : (⟨x, ks.map It5.n⟩ : Rw).wds = x :: ks.map nS := by
        show x :: ((ks.map It5.n).map It5.wds).flatten = _
        rw [wds_nums]
      have hkl : ks.length ≤ 110 := by
        have e := wl_len (⟨x, ks.map It5.n⟩ : Rw).wds
        rw [e2, List.length_cons, List.length_map] at e
        rw [e2] at hw
        omega
      refine iteF ⟨_, rfl, _, rfl, _, rfl, ?_⟩
      refine sl_from (k := 1) ht (by simp) fun t2 H2 s2 ht2 => ?_
      refine ⟨x, t2, ks, rfl, .inr ht2, by omega, by omega, hk, fun H3 s3 => kj _ _ e2.symm (s2.trans s3)⟩
end
end K32

namespace K32
open PySem L2 Cm
/-! ### the law's own text is read back -/
def clean (x : Str) : Prop := ∀ c ∈ cs x, c ≠ 32 ∧ c ≠ 10 ∧ c < 0x110000
theorem clean_words {l : List Str} (h : l.all (fun x => (cs x).all fun c => decide (c ≠ 32 ∧ c ≠ 10 ∧ c < 0x110000)) = true) : ∀ x ∈ l, clean x := fun x m c mc => of_decide_eq_true (List.all_eq_true.mp (List.all_eq_true.mp h x m) c mc)
theorem clean_num (n : Nat) : clean (nS n) := fun c m => by
  rw [show cs (nS n) = TL.numL n from numS_nat n] at m
  have := TL.numL_digits n c m
  have h1 := this.1
  have h2 := this.2
  exact ⟨by omega, by omega, by omega⟩
theorem clean_int (i : Int) : clean (numS i) := fun c m => by
  rw [num_cs] at m
  rcases List.mem_append.mp m with m | m
  · split at m
    · rw [List.mem_singleton.mp m]; decide
    · cases m
  · have := TL.numL_digits i.natAbs c m
    have h1 := this.1
    have h2 := this.2
    exact ⟨by omega, by omega, by omega⟩
theorem clean_ops : ∀ x ∈ opsW, clean x := clean_words (by decide +kernel)
theorem clean_cons : ∀ x ∈ consW, clean x := clean_words (by decide +kernel)
theorem clean_kind {r : Rw} (h : r.ok) : clean r.w := by
  obtain ⟨ss, es, _, hf⟩ := h
  refine clean_words (l := shapesL.map (·.1)) (by decide +kernel) _ ?_
  refine Classical.byContradiction fun nx => ?_
  rw [shape_out nx] at es
  cases es
theorem clean_fits : ∀ {ss : List Sh} {is : List It5}, fits ss is → ∀ i ∈ is, ∀ x ∈ i.wds, clean x
  | [], [], _, _, m => by cases m
  | s :: ss, i :: is, h, j, m => by
    have h' : fitI s i ∧ fits ss is := h
    rcases List.mem_cons.mp m with rfl | m
    · intro x mx
      cases j with
      | n k =>
        rw [List.mem_singleton.mp (show x ∈ [nS k] from mx)]
        exact clean_num k
      | c w =>
        rw [List.mem_singleton.mp (show x ∈ [w] from mx)]
        cases s with
        | val => exact clean_cons w h'.1
        | _ => exact h'.1.elim
      | v i =>
        rw [List.mem_singleton.mp (show x ∈ [numS i] from mx)]
        exact clean_int i
      | o w =>
        rw [List.mem_singleton.mp (show x ∈ [w] from mx)]
        cases s with
        | op => exact clean_ops w h'.1
        | _ => exact h'.1.elim
      | cs ks =>
        obtain ⟨k, _, rfl⟩ := List.mem_map.mp (show x ∈ ks.map nS from mx)
        exact clean_num k
      | ps xs =>
        have mx' : x ∈ (xs.map pairW).flatten := mx
        rw [← pairN_words] at mx'
        obtain ⟨k, _, rfl⟩ := List.mem_map.mp mx'
        exact clean_num k
    · exact clean_fits h'.2 j m
theorem clean_row {r : Rw} (h : r.ok) : ∀ x ∈ r.wds, clean x := fun x m => by
  have m' : x ∈ r.w :: (r.its.map It5.wds).flatten := m
  rcases List.mem_cons.mp m' with rfl | m'
  · exact clean_kind h
  · obtain ⟨l, ml, mx⟩ := List.mem_flatten.mp m'
    obtain ⟨i, mi, rfl⟩ := List.mem_map.mp ml
    obtain ⟨ss, _, _, hf⟩ := h
    exact clean_fits hf i mi x mx
theorem clean_lns {c : Lst} (h : ∀ r ∈ c.rows, r.ok) : ∀ ws ∈ c.lns, ws ≠ [] ∧ ∀ x ∈ ws, clean x := fun ws m => by
  have hd : ∀ (a : Str) (ks : List Nat), clean a → (a :: ks.map nS) ≠ [] ∧ ∀ x ∈ a :: ks.map nS, clean x := fun a ks ha => by
    refine ⟨(fun z => by cases z), fun x m => ?_⟩
    rcases List.mem_cons.mp m with rfl | m
    · exact ha
    · obtain ⟨k, _, rfl⟩ := List.mem_map.mp m
      exact clean_num k
  have cw := clean_words (l := ["starts", "returns"]) (by decide +kernel)
  have m' : ws ∈ (("starts" : Str) :: c.starts.map nS) :: (("returns" : Str) :: c.returns.map nS) :: c.rows.map Rw.wds := m
  rcases List.mem_cons.mp m' with rfl | m'
  · exact hd _ _ (cw _ List.mem_cons_self)
  · rcases List.mem_cons.mp m' with rfl | m'
    · exact hd _ _ (cw _ (List.mem_cons_of_mem _ List.mem_cons_self))
    · obtain ⟨r, mr, rfl⟩ := List.mem_map.mp m'
      exact ⟨(fun z => by cases (show r.w :: _ = [] from z)), clean_row (h r mr)⟩
def lineS (ws : List Str) : Str := Str.join " " ws
theorem line_split {ws : List Str} (ne : ws ≠ []) (h : ∀ x ∈ ws, clean x) : splS 32 (lineS ws) = ws := splS_of sp32 (by decide) ne fun p m z => (h p m 32 z).1 rfl
theorem line_chars {ws : List Str} (h : ∀ x ∈ ws, clean x) : ∀ c ∈ cs (lineS ws), c ≠ 10 ∧ c < 0x110000 := fun c m => by
  have e : cs (lineS ws) = TL.joinL [32] (ws.map TL.tl) := by
    show TL.tl (Str.join " " ws) = _
    rw [TL.tl_join, show TL.tl (" " : Str) = [32] from sp32]
  rw [e] at m
  rcases joinL_in m with m | ⟨p, mp, m⟩
  · rw [List.mem_singleton.mp m]
    decide
  · obtain ⟨q, mq, rfl⟩ := List.mem_map.mp mp
    exact (h q mq c m).2
theorem line_at {w : Str} {ws : List Str} (h : ∀ x ∈ w :: ws, clean x) : wordOf (lineS (w :: ws)) = w ∧ restOf (lineS (w :: ws)) = ws := by
  have e := line_split (fun z => by cases z) h
  unfold wordOf restOf
  rw [e]
  exact ⟨rfl, rfl⟩
theorem txt_glue (c : Lst) : c.txt = Str.join "\n" (c.lns.map lineS ++ [("" : Str)]) := by
  apply cs_inj
  show TL.tl c.txt = TL.tl (Str.join "\n" (c.lns.map lineS ++ [("" : Str)]))
  rw [TL.tl_join, show TL.tl ("\n" : Str) = [10] from sp10, List.map_append]
  show _ = TL.joinL [10] ((c.lns.map lineS).map TL.tl ++ [TL.tl ""])
  rw [show TL.tl ("" : Str) = [] from by decide +kernel, joinL_nl]
  show TL.tl (Str.join "" (c.lns.map lineT)) = _
  rw [TL.tl_join, show TL.tl ("" : Str) = [] from by decide +kernel, joinL_emp, List.map_map, List.map_map, List.map_map]
  congr 1
  apply List.map_congr_left
  intro ws _
  show TL.tl (Str.join " " ws ++ "\n") = TL.tl (lineS ws) ++ [10]
  rw [TL.tl_append, show TL.tl ("\n" : Str) = [10] from sp10]
  rfl
theorem own_split {c : Lst} (h : ∀ r ∈ c.rows, r.ok) : splS 10 c.txt = c.lns.map lineS ++ [("" : Str)] := by
  rw [txt_glue]
  refine splS_of sp10 (by decide) (fun z => by simp at z) fun p m z => ?_
  rcases List.mem_append.mp m with m | m
  · obtain ⟨ws, mw, rfl⟩ := List.mem_map.mp m
    exact (line_chars (clean_lns h ws mw).2 10 z).1 rfl
  · rw [List.mem_singleton.mp m] at z
    cases z
theorem own_sok {c : Lst} (h : ∀ r ∈ c.rows, r.ok) : sok c.txt := by
  rw [txt_glue]
  refine join_sok fun p m => ?_
  rcases List.mem_append.mp m with m | m
  · obtain ⟨ws, mw, rfl⟩ := List.mem_map.mp m
    exact sok_iff.mpr fun d md => (line_chars (clean_lns h ws mw).2 d md).2
  · rw [List.mem_singleton.mp m]
    decide +kernel
theorem own_head {a : Str} {ks : List Nat} (ha : clean a) (h : ∀ n ∈ ks, n < 100000) : headOf a (lineS (a :: ks.map nS)) = some ks := by
  obtain ⟨e1, e2⟩ := line_at (w := a) (ws := ks.map nS) fun x m => by
    rcases List.mem_cons.mp m with rfl | m
    · exact ha
    · obtain ⟨k, _, rfl⟩ := List.mem_map.mp m
      exact clean_num k
  unfold headOf
  rw [e1, e2, if_pos rfl]
  exact nums_num h
theorem own_line {r : Rw} (h : r.ok) : lineOf (lineS r.wds) = some r := by
  obtain ⟨e1, e2⟩ := line_at (w := r.w) (ws := (r.its.map It5.wds).flatten) (clean_row h)
  show rowOf (wordOf (lineS (r.w :: (r.its.map It5.wds).flatten))) (restOf (lineS (r.w :: (r.its.map It5.wds).flatten))) = some r
  rw [e1, e2]
  exact rowOf_ok h
theorem own_rdd {c : Lst} (h : ∀ r ∈ c.rows, r.ok) (h1 : ∀ n ∈ c.starts, n < 100000) (h2 : ∀ n ∈ c.returns, n < 100000) : RddE (c.lns.map lineS) [c.starts, c.returns] c.rows := by
  have cw := clean_words (l := ["starts", "returns"]) (by decide +kernel)
  refine ⟨?_, ?_⟩
  · show [some c.starts, some c.returns] = [headOf "starts" (lineS (("starts" : Str) :: c.starts.map nS)), headOf "returns" (lineS (("returns" : Str) :: c.returns.map nS))]
    rw [own_head (cw _ List.mem_cons_self) h1, own_head (cw _ (List.mem_cons_of_mem _ List.mem_cons_self)) h2]
  · show c.rows.map some = ((c.rows.map Rw.wds).map lineS).map lineOf
    rw [List.map_map, List.map_map]
    apply List.map_congr_left
    intro r m
    exact (own_line (h r m)).symm
theorem first_none : ∀ (l : List Str) (i : Nat), (∀ x ∈ l, (lineOf x).isSome = true) → firstBad (i + 2) l = 0
  | [], _, _ => rfl
  | x :: l, i, h => by
    show (if (lineOf x).isSome = true then firstBad (i + 1 + 2) l else i + 2 + 1) = 0
    rw [if_pos (h x List.mem_cons_self)]
    exact first_none l (i + 1) fun y m => h y (List.mem_cons_of_mem _ m)
theorem own_bad {c : Lst} (h : ∀ r ∈ c.rows, r.ok) (h1 : ∀ n ∈ c.starts, n < 100000) (h2 : ∀ n ∈ c.returns, n < 100000) : badL (splS 10 c.txt) = 0 := by
  rw [own_split h]
  have cw := clean_words (l := ["starts", "returns"]) (by decide +kernel)
  have e := bad_more (a := lineS (("starts" : Str) :: c.starts.map nS)) (b := lineS (("returns" : Str) :: c.returns.map nS)) (dl := (c.rows.map Rw.wds).map lineS) (last := "") (by rw [own_head (cw _ List.mem_cons_self) h1]; rfl) (by rw [own_head (cw _ (List.mem_cons_of_mem _ List.mem_cons_self)) h2]; rfl)
  refine Eq.trans (show _ = _ from rfl) (e.trans ?_)
  have e0 : firstBad 2 ((c.rows.map Rw.wds).map lineS) = 0 := first_none _ 0 fun x m => by
    obtain ⟨ws, mw, rfl⟩ := List.mem_map.mp m
    obtain ⟨r, mr, rfl⟩ := List.mem_map.mp mw
    rw [own_line (h r mr)]
    rfl
  rw [e0, if_neg (fun z => z rfl), if_pos rfl]
theorem cost_wl (ws : List Str) : cost ws = wl ws + 2 := rfl
theorem cost_nums {ks : List Nat} (a : Str) (h : ∀ n ∈ ks, n < 100000) : cost (a :: ks.map nS) ≤ a.length + 3 + 6 * ks.length := by
  have := wl_nums h
  rw [cost_wl, wl_cons]
  omega
theorem own_cost {c : Lst} (hr : ∀ r ∈ c.rows, wl r.wds ≤ 110) (hl : c.rows.length ≤ 40) (h1 : ∀ n ∈ c.starts, n < 100000) (h2 : ∀ n ∈ c.returns, n < 100000) (l1 : c.starts.length ≤ 5) (l2 : c.returns.length ≤ 5) : (c.lns.map cost).sum ≤ 4700 := by
  have e1 := cost_nums "starts" h1
  have e2 := cost_nums "returns" h2
  have s1 : ("starts" : Str).length = 6 := by decide +kernel
  have s2 : ("returns" : Str).length = 7 := by decide +kernel
  have key : ∀ l : List Rw, (∀ r ∈ l, wl r.wds ≤ 110) → ((l.map Rw.wds).map cost).sum ≤ 112 * l.length := by
    intro l
    induction l with
    | nil => intro _; exact Nat.le_refl _
    | cons r l ih =>
      intro h
      have := ih fun x m => h x (List.mem_cons_of_mem _ m)
      have h0 := h r List.mem_cons_self
      rw [List.map_cons, List.map_cons, List.sum_cons, List.length_cons, cost_wl]
      omega
  have e3 := key c.rows hr
  show cost (("starts" : Str) :: c.starts.map nS) + (cost (("returns" : Str) :: c.returns.map nS) + ((c.rows.map Rw.wds).map cost).sum) ≤ 4700
  omega
theorem own_len (c : Lst) : c.txt.length ≤ (c.lns.map cost).sum := by
  have h := join_le "" (c.lns.map lineT)
  have e0 : ("" : Str).length = 0 := by decide +kernel
  rw [e0, Nat.mul_zero, Nat.add_zero, List.map_map] at h
  refine Nat.le_trans h ?_
  have key : ∀ l : List (List Str), (l.map ((fun x : Str => x.length) ∘ lineT)).sum ≤ (l.map cost).sum := by
    intro l
    induction l with
    | nil => exact Nat.le_refl _
    | cons r l ih =>
      rw [List.map_cons, List.map_cons, List.sum_cons, List.sum_cons]
      have := line_le r
      show (lineT r).length + _ ≤ _
      omega
  exact key c.lns
end K32

namespace K32
open PySem L2 Cm
def spLaw (K : PySem.W.Frag) : Sp := fun vs H Q _ => ∃ (a : Addr) (ns : List Int), vs = [.ref a] ∧ SqL K H a (ns.map V.int) ∧ ns.length ≤ 63 ∧ ∀ H', Q (.bl true) H'
theorem sok_clean {x : Str} (h : clean x) : sok x := sok_iff.mpr fun c m => (h c m).2.2
theorem lay_nums (ks : List Nat) (n : Nat) : Lay (n + 1) (numsD ks) := Lay.tup fun d m => by
  obtain ⟨k, _, rfl⟩ := List.mem_map.mp m
  exact .int _ _
theorem lay_enc {i : It5} (h : ∀ x ∈ i.wds, clean x) : Lay 3 i.enc := by
  cases i with
  | n k => exact .int _ _
  | c w => exact (Lay.tup (n := 2) fun d m => by
      rw [List.mem_singleton.mp m]
      exact .str (sok_clean (h w (List.mem_singleton.mpr rfl))) _)
  | v i => exact .int _ _
  | o w => exact .str (sok_clean (h w (List.mem_singleton.mpr rfl))) _
  | cs ks => exact lay_nums ks 2
  | ps xs => exact (Lay.tup (n := 2) fun d m => by
      obtain ⟨p, _, rfl⟩ := List.mem_map.mp m
      exact Lay.tup (n := 1) fun d m => by
        rcases List.mem_cons.mp m with rfl | m
        · exact .int _ _
        · rw [List.mem_singleton.mp m]
          exact lay_nums p.2 0)
theorem lay_rw {r : Rw} (h : r.ok) : Lay 4 r.enc := Lay.tup (n := 3) fun d m => by
  rcases List.mem_cons.mp m with rfl | m
  · exact .str (sok_clean (clean_kind h)) _
  · obtain ⟨i, mi, rfl⟩ := List.mem_map.mp m
    obtain ⟨ss, _, _, hf⟩ := h
    exact lay_enc (clean_fits hf i mi)
theorem sh_rows {rs : List Rw} (h : ∀ r ∈ rs, r.ok) : SeqAt.shaped (.tuple (rs.map Rw.enc)) = true := (Lay.tup (n := 4) fun d m => by
  obtain ⟨r, mr, rfl⟩ := List.mem_map.mp m
  exact lay_rw (h r mr)).sh (by decide)
theorem sh_nums (ks : List Nat) : SeqAt.shaped (numsD ks) = true := (lay_nums ks 0).sh (by decide)
theorem flat_rows (rs : List Rw) : flatDs (rs.map Rw.enc) = true := flatDs_of _ fun d m => by
  obtain ⟨r, _, rfl⟩ := List.mem_map.mp m
  exact flat_rw r
structure Calls (P : Program) (w : World) (K : PySem.W.Frag) (mg : Str → Option Value) (base : Heap) (C CE : Addr) : Prop where
  hand : Cl P w K mg base 1 "_law_hand" (spHand K)
  draw : Cl P w K mg base 2 "_law_draw" spDraw
  instr : Cl P w K mg base 6 "_law_instruction" (spInstr K)
  numbers : Cl P w K mg base 5 "_law_numbers" (spNumbers K)
  mkJ : MkC P w K mg base 1 "JumpCode" C (spIni C namesJ)
  eqJ : EqC P w K mg base 1 C (spEqA K C namesJ)
  tJ : ClsT K mg "JumpCode" C namesJ
  joined : Cl P w K mg base 1 "_law_joined" (spJoined K)
  line : Cl P w K mg base 2 "_law_line" (spLine K)
  read : ClX P w K mg base 5 "read_jumps" (spRead K C CE)
  text : Cl P w K mg base 3 "jump_text" (spJText K C)
  changed : Cl P w K mg base 5 "_law_changed" spChanged
  bad : Cl P w K mg base 5 "_law_bad_line" spBadL
  reads : Cl P w K mg base 6 "_law_reads" (spReads K)
section
variable {P : Program} {w : World} {K : PySem.W.Frag} {mg : Str → Option Value} {base : Heap} {CJ CE : Addr}
abbrev s_law : Stmt := top 67
abbrev N_law : List Str := ["_law_script", "_law_hand_here", "_law_rows", "_law_k", "_law_starts", "_law_returns", "_law_code", "_law_lines", "_law_row", "_law_text", "_law_line_here", "_law_back", "_law_turn"]
theorem sc_law : FnScope N_law ["_law_script"] (defScope s_law) := ⟨rfl, rfl, rfl, by decide +kernel, rfl, by decide +kernel, by decide +kernel⟩
theorem ok_law {f : Addr} {fd : FuncData} (T : Txt mg) (C : Calls P w K mg base CJ CE) (F : Fun K "law" "law" s_law f fd) : LawAt P w K mg base 7 f fd ["_law_script"] (spLaw K) := by
  refine lawAt_of F sc_law (fun vs H Q E h => ?_) fun cdv A outer s H vs Q E hgd hr h => ?_
  · obtain ⟨a, ns, rfl, _⟩ := h
    rfl
  · obtain ⟨a, ns, rfl, hS, hlen, k⟩ := h
    refine ⟨_, (pss_cons (ps_set (i := 1) sc_law.nd rfl (Or.inr rfl) (pe_c C.hand hr (by decide) (by rfl) (pa_cons (pv 0) pa_nil)))
      (pss_mid (ps_set (i := 2) sc_law.nd rfl (Or.inl rfl) (pe_tupleOf (by rfl) T.tuple (pe_lc (own := [("_law_k", 3)]) rfl sc_law.nd (pi_range1 (by rfl) T.range (pa_cons (pe_c C.draw hr (by decide) (by rfl) (pa_cons (pv 1) (pa_cons pe_int pa_nil))) pa_nil)) (blkOk_by (N := N_law) (sc := defScope s_law) (by decide +kernel))
      (fun _ _ _ _ _ => (pg_name (i := 3) sc_law.nd rfl (Or.inl rfl)))
      (fun _ _ _ _ _ => pts_nil)
      (fun _ _ _ _ _ => (pe_c C.instr hr (by decide) (by rfl) (pa_cons (pv 1) pa_nil))))))
      (pss_cons (ps_set (i := 4) sc_law.nd rfl (Or.inl rfl) (pe_c C.numbers hr (by decide) (by rfl) (pa_cons (pv 1) (pa_cons (pe_c C.draw hr (by decide) (by rfl) (pa_cons (pv 1) (pa_cons pe_int pa_nil))) pa_nil))))
      (pss_cons (ps_set (i := 5) sc_law.nd rfl (Or.inl rfl) (pe_c C.numbers hr (by decide) (by rfl) (pa_cons (pv 1) (pa_cons (pe_c C.draw hr (by decide) (by rfl) (pa_cons (pv 1) (pa_cons pe_int pa_nil))) pa_nil))))
      (pss_cons (ps_set (i := 6) sc_law.nd rfl (Or.inl rfl) (pe_mkC C.mkJ hr (by decide) (by rfl) (pa_cons (pv 2) (pa_cons (pv 4) (pa_cons (pv 5) pa_nil)))))
      (pss_mid (ps_set (i := 7) sc_law.nd rfl (Or.inl rfl) (pe_op op_cat (pe_lst (pa_cons (pe_c C.joined hr (by decide) (by rfl) (pa_cons pe_str (pa_cons (pv 4) pa_nil))) (pa_cons (pe_c C.joined hr (by decide) (by rfl) (pa_cons pe_str (pa_cons (pv 5) pa_nil))) pa_nil))) (pe_lc (own := [("_law_row", 8)]) rfl sc_law.nd (pi_tup (pv 2)) (blkOk_by (N := N_law) (sc := defScope s_law) (by decide +kernel))
      (fun _ _ _ _ _ => (pg_name (i := 8) sc_law.nd rfl (Or.inl rfl)))
      (fun _ _ _ _ _ => pts_nil)
      (fun _ _ _ _ _ => (pe_c C.line hr (by decide) (by rfl) (pa_cons (pv 8) pa_nil))))))
      (pss_mid (ps_set (i := 9) sc_law.nd rfl (Or.inl rfl) (pe_join pe_str (pe_lc (own := [("_law_line_here", 10)]) rfl sc_law.nd (pi_list (pv 7)) (blkOk_by (N := N_law) (sc := defScope s_law) (by decide +kernel))
      (fun _ _ _ _ _ => (pg_name (i := 10) sc_law.nd rfl (Or.inl rfl)))
      (fun _ _ _ _ _ => pts_nil)
      (fun _ _ _ _ _ => (pe_op op_add_str (pv 10) pe_str)))))
      (pss_cons (ps_set (i := 11) sc_law.nd rfl (Or.inl rfl) (pe_cL C.read hr (by decide) (by rfl) (pa_cons (pv 9) pa_nil)))
      (pss_mid (ps_if (PW.pt (pw_or (pt_cmpR op_ne (pe_c C.text hr (by decide) (by rfl) (pa_cons (pv 6) pa_nil)) (pv 9) (nomark _)) (pw_or (pt_cmpR (op_neD hr.units) (pe_fld (pv 11) rfl) (pv 2) (nomark _)) (pw_or (pt_cmpR (op_neD hr.units) (pe_fld (pv 11) rfl) (pv 4) (nomark _)) (pw_or (pt_cmpR (op_neD hr.units) (pe_fld (pv 11) rfl) (pv 5) (nomark _)) (pw_or1 (pt_not (pt_cmpR (op_eqO C.eqJ hr (by decide)) (pv 11) (pv 6) (nomark _)))))))))
        (pss_one (ps_ret pe_bl))
        pss_nil)
      (pss_cons (ps_for PassesOwn.never rfl (pi_range1 (by rfl) T.range (pa_cons (pe_op op_add pe_int (pe_c C.draw hr (by decide) (by rfl) (pa_cons (pv 1) (pa_cons pe_int pa_nil)))) pa_nil)) (pg_name (i := 12) sc_law.nd rfl (Or.inl rfl))
        (pss_cons (ps_set (i := 9) sc_law.nd rfl (Or.inl rfl) (pe_c C.changed hr (by decide) (by rfl) (pa_cons (pv 1) (pa_cons (pv 9) pa_nil))))
        (pss_cons (ps_set (i := 10) sc_law.nd rfl (Or.inl rfl) (pe_c C.bad hr (by decide) (by rfl) (pa_cons (pv 9) pa_nil)))
        (pss_one (ps_if (pt_cmpR (op_neD hr.units) (pe_c C.reads hr (by decide) (by rfl) (pa_cons (pv 9) pa_nil)) (pe_tup (pa_cons (pv 10) (pa_cons (pe_ifExp (pt_cmpR op_gt (pv 10) pe_int (nomark _)) pe_str (pv 9)) pa_nil))) (nomark _))
          (pss_one (ps_ret pe_bl))
          pss_nil)))))
      (pss_one (ps_ret pe_bl)))))))))))), ?_⟩
    refine ⟨_, rfl, a, ns, rfl, hS, hlen, fun h c H1 s1 _ _ hh1 => ?_⟩
    refine ⟨fun σ' H' => ∃ (pt : Addr) (rs : List Rw), σ' = [some (.ref a), some (.ref h), some (.ref pt), none, none, none, none, none, none, none, none, none, none] ∧ Hand H' h c ∧ Dp K H' (.ref pt) (.tuple (rs.map Rw.enc)) ∧ rs.length ≤ 40 ∧ ∀ r ∈ rs, r.ok ∧ wl r.wds ≤ 110, ?_, ?_⟩
    · refine ⟨_, rfl, h, c, 40, rfl, hh1, by decide, by decide, fun n H2 n0 n1 k2 h2 => ⟨_, rfl, by omega, by omega, fun D1 hD1 => ?_⟩⟩
      obtain ⟨m, rfl⟩ : ∃ m : Nat, n = (m : Int) := ⟨n.toNat, by omega⟩
      have eto : ((m : Nat) : Int).toNat = m := by omega
      have nD := h2.there hD1
      refine lc_it (walk_upto (n := ((m : Nat) : Int).toNat)) (fun i H' => ∃ (rs : List Rw) (vs : List V), Kh h H2 H' ∧ Hand H' h c ∧ H' D1 = some (.lst vs) ∧ DpAll K H' vs (rs.map Rw.enc) ∧ rs.length = i ∧ ∀ r ∈ rs, r.ok ∧ wl r.wds ≤ 110) ?_ (fun _ _ _ _ => trivial) ?_ ?_
      · exact ⟨[], [], h2.kr.mut hD1, h2.same (same_new hD1), upd_same, .nil, rfl, fun r z => by cases z⟩
      · rintro i v H3 H4 hi ⟨rs, vs, k3, h3, hD3, dvs, hl, hrs⟩ ⟨rfl, rfl⟩
        refine ⟨rfl, _, rfl, h, c, rfl, h3, fun r v H5 ok hw k5 h5 dv => ?_⟩
        have hD5 : H5 D1 = some (.lst vs) := k5.st _ _ nD.1 hD3
        have hvl : vs.length = rs.length := by rw [Cm.DpAll.len dvs, List.length_map]
        refine ⟨_, hD5, Nat.lt_of_le_of_lt (show vs.length ≤ 60 by omega) (by decide), rs ++ [r], vs ++ [v], (k3.trans k5).mut hD1, h5.puts nD.1 nD.2, upd_same, ?_, by rw [List.length_append, hl]; rfl, fun x z => ?_⟩
        · rw [List.map_append]
          exact DpAll.snoc (dp_keep (fun _ _ q => sqt_put hD5 q) _ _ (flat_rw r) dv) (dps_keep (fun _ _ q => sqt_put hD5 (k5.tup q)) _ _ (flat_rows rs) dvs)
        · rcases List.mem_append.mp z with z | z
          · exact hrs x z
          · rw [List.mem_singleton.mp z]
            exact ⟨ok, hw⟩
      · rintro H3 ⟨rs, vs, k3, h3, hD3, dvs, hl, hrs⟩
        refine .inl ⟨D1, _, rfl, .inl (.inl hD3), fun p hp => ?_⟩
        have s4 := same_new (o := .tup vs) hp
        exact ⟨p, rs, rfl, h3.same s4, .tup (.inl (.inl upd_same)) (dps_same s4 _ _ dvs), by omega, hrs⟩
    rintro σ' H2 ⟨pt, rs, rfl, h2, dR, hrl, hrs⟩
    refine ⟨_, rfl, _, rfl, h, c, 6, rfl, h2, by decide, by decide, fun d1 H3 d10 d11 k3 h3 => ?_⟩
    obtain ⟨m1, rfl⟩ : ∃ m : Nat, d1 = (m : Int) := ⟨d1.toNat, by omega⟩
    refine ⟨h, c, m1, rfl, h3, by omega, fun st ts H4 hl4 hst k4 h4 ht4 => ?_⟩
    refine ⟨_, rfl, _, rfl, h, c, 6, rfl, h4, by decide, by decide, fun d2 H5 d20 d21 k5 h5 => ?_⟩
    obtain ⟨m2, rfl⟩ : ∃ m : Nat, d2 = (m : Int) := ⟨d2.toNat, by omega⟩
    refine ⟨h, c, m2, rfl, h5, by omega, fun re tr H6 hl6 hre k6 h6 ht6 => ?_⟩
    have k26 := ((k3.trans k4).trans k5).trans k6
    have dR6 : Dp K H6 (.ref pt) (.tuple (rs.map Rw.enc)) := dp_keep (fun _ _ q => k26.tup q) _ _ (flat_rows rs) dR
    have ht46 : SqT K H6 ts (st.map numv) := (k5.trans k6).tup ht4
    clear dR h2 h3 h4 h5 k3 k4 k5 k6 k26 ht4 s1 hh1
    refine ⟨_, rfl, _, rfl, _, rfl, ?_⟩
    intro O dxO nO ndxO neO
    obtain ⟨H7, s7, ob7, fin7⟩ := made_ob2 (K := K) (C := CJ) (names := namesJ) (ds := (Lst.mk rs st re).enc) (vs := [.ref pt, .ref ts, .ref tr]) (.cons dR6 (.cons (dp_numsD ht46) (.cons (dp_numsD ht6) .nil))) rfl nO ndxO neO
    refine fin7 _ ⟨rfl, ?_⟩
    have h7 := h6.same s7
    have dR7 := dp_same s7 _ _ dR6
    have ts7 := sqt_same s7 ht46
    have tr7 := sqt_same s7 ht6
    clear dR6 ht46 ht6 h6
    have ok7 : ∀ r ∈ (Lst.mk rs st re).rows, r.ok := fun r m => (hrs r m).1
    have co7 := own_cost (c := Lst.mk rs st re) (fun r m => (hrs r m).2) hrl hst hre (by show st.length ≤ 5; omega) (by show re.length ≤ 5; omega)
    have cok : (Lst.mk rs st re).ok := ⟨ok7, fun r m => by
      have e1 := (hrs r m).2
      have e2 := wl_len r.wds
      omega, hst, hre, by show st.length ≤ 80000; omega, by show re.length ≤ 80000; omega, by show rs.length ≤ 80000; omega, Nat.le_trans co7 (by decide)⟩
    refine ⟨fun σ' H' => ∃ Ll : Addr, σ' = [some (.ref a), some (.ref h), some (.ref pt), none, some (.ref ts), some (.ref tr), some (.ref O), some (.ref Ll), none, none, none, none, none] ∧ Same H7 H' ∧ H' Ll = some (.lst (((Lst.mk rs st re).lns.map lineS).map V.str)), ?_, ?_⟩
    · have e1 : ("starts" : Str).length ≤ 1000 := by decide +kernel
      have e2 : ("returns" : Str).length ≤ 1000 := by decide +kernel
      obtain ⟨vs, hpt, dvs⟩ : ∃ vs, SqT K H7 pt vs ∧ DpAll K H7 vs (rs.map Rw.enc) := by
        cases dR7 with
        | tup a b => exact ⟨_, a, b⟩
      have hvl : vs.length = rs.length := by rw [Cm.DpAll.len dvs, List.length_map]
      refine ⟨_, rfl, "starts", ts, st, rfl, .inr ts7, e1, by omega, hst, fun H8 s8 => ⟨_, rfl, "returns", tr, re, rfl, .inr (sqt_same s8 tr7), e2, by omega, hre, fun H9 s9 => ⟨by show 2 ≤ sizeLine; decide, fun A1 hA1 => ?_⟩⟩⟩
      have sA := same_new (o := .lst [.str (lineS (("starts" : Str) :: st.map nS)), .str (lineS (("returns" : Str) :: re.map nS))]) hA1
      have s7A := (s8.trans s9).trans sA
      have hA2 := upd_same (H := H9) (a := A1) (o := .lst [.str (lineS (("starts" : Str) :: st.map nS)), .str (lineS (("returns" : Str) :: re.map nS))])
      refine ⟨_, rfl, pt, rfl, ⟨_, sqt_same s7A hpt⟩, fun D2 hD2 => ?_⟩
      have sD := same_new (o := .lst []) hD2
      have hA3 := sD _ _ hA2
      refine lc_it (walk_tup (K := K) (a := pt) (xs := vs)) (fun i H' => Same H7 H' ∧ H' A1 = some (.lst [.str (lineS (("starts" : Str) :: st.map nS)), .str (lineS (("returns" : Str) :: re.map nS))]) ∧ H' D2 = some (.lst (((rs.take i).map fun r => lineS r.wds).map V.str))) ?_ (fun i H' _ z => sqt_same z.1 hpt) ?_ ?_
      · exact ⟨s7A.trans sD, hA3, upd_same⟩
      · rintro i v H10 H11 hi ⟨s10, hA10, hD10⟩ ⟨rfl, ev⟩
        obtain ⟨d, ed, hd5⟩ := Cm.DpAll.atV dvs ev
        obtain ⟨r, er, rfl⟩ : ∃ r, rs[i]? = some r ∧ d = r.enc := by
          rw [List.getElem?_map] at ed
          obtain ⟨p, ep, e⟩ := Option.map_eq_some_iff.mp ed
          exact ⟨p, ep, e.symm⟩
        have hr0 := hrs r (List.mem_of_getElem? er)
        refine ⟨rfl, _, rfl, v, r, rfl, dp_same s10 _ _ hd5, hr0.1, hr0.2, fun H12 s12 => ?_⟩
        have hD12 := s12 _ _ hD10
        have nAD : A1 ≠ D2 := ne_of_none hA2 hD2
        refine ⟨_, hD12, Nat.lt_of_le_of_lt (show _ ≤ 100 by rw [List.length_map, List.length_map, List.length_take]; omega) (by decide), same_put (s10.trans s12) (free_of s7A hD2), by rw [upd_ne nAD]; exact s12 _ _ hA10, ?_⟩
        rw [upd_same, (takeNext er).1, List.map_append, List.map_append]
        rfl
      · rintro H10 ⟨s10, hA10, hD10⟩
        rw [List.take_of_length_le (by omega)] at hD10
        refine ⟨A1, D2, _, _, rfl, rfl, hA10, hD10, Nat.le_trans (show _ ≤ 100 by rw [List.length_map, List.length_map]; show 2 + _ ≤ 100; omega) (by decide), fun p hp => ?_⟩
        have s11 := same_new (o := .lst ([.str (lineS (("starts" : Str) :: st.map nS)), .str (lineS (("returns" : Str) :: re.map nS))] ++ ((rs.map fun r => lineS r.wds).map V.str))) hp
        refine ⟨p, rfl, s10.trans s11, ?_⟩
        rw [upd_same]
        show _ = some (HO.lst (.str (lineS (("starts" : Str) :: st.map nS)) :: .str (lineS (("returns" : Str) :: re.map nS)) :: (((rs.map Rw.wds).map lineS).map V.str)))
        have e : (rs.map Rw.wds).map lineS = rs.map fun r => lineS r.wds := by
          rw [List.map_map]
          rfl
        rw [e]
        rfl
    rintro σ' H8 ⟨Ll, rfl, s8, hLl⟩
    refine ⟨fun σ' H' => σ' = [some (.ref a), some (.ref h), some (.ref pt), none, some (.ref ts), some (.ref tr), some (.ref O), some (.ref Ll), none, some (.str (Lst.mk rs st re).txt), none, none, none] ∧ Same H8 H', ?_, ?_⟩
    · refine ⟨⟨_, rfl⟩, _, rfl, Ll, rfl, ⟨_, .inl (.inl hLl)⟩, fun D3 hD3 => ?_⟩
      have hn : ((Lst.mk rs st re).lns.map lineS).length ≤ 100 := by
        rw [List.length_map]
        show (rs.map Rw.wds).length + 1 + 1 ≤ 100
        rw [List.length_map]
        omega
      have n1 : ("\n" : Str).length = 1 := by decide +kernel
      have n0 : ("" : Str).length = 0 := by decide +kernel
      have hls : ∀ x ∈ (Lst.mk rs st re).lns.map lineS, x.length ≤ 10000 := fun x m => by
        obtain ⟨ws, mw, rfl⟩ := List.mem_map.mp m
        have e1 := line_le ws
        have e2 := cost_mem mw
        have e3 : (lineT ws).length = (lineS ws).length + 1 := by
          show (lineS ws ++ "\n" : Str).length = _
          rw [len_app, n1]
        omega
      refine lc_mapF (K := K) ((Lst.mk rs st re).lns.map lineS) V.str (fun x => .str (x ++ "\n")) (fun x => .str (x ++ "\n")) (fun _ => rfl) (fun H v x h => by cases h; rfl) walk_list hD3 (by omega) (fun H' s => s.seq (.inl (.inl hLl))) (fun x H1 m s1 Q1 Q0 q1 => ?_) (fun H1 s1 hD4 => ?_)
      · refine ⟨rfl, _, rfl, _, _, rfl, rfl, ?_, q1 _ _ (Same.refl _) (.str _)⟩
        have := hls x m
        rw [n1]
        exact Nat.le_trans (show _ ≤ 10001 by omega) (by decide)
      · have ey : ((Lst.mk rs st re).lns.map lineS).map (fun x => V.str (x ++ "\n")) = ((Lst.mk rs st re).lns.map lineT).map V.str := by
          rw [List.map_map, List.map_map]
          rfl
        rw [ey] at hD4
        have hlT : (((Lst.mk rs st re).lns.map lineT).map (·.length)).sum ≤ 4700 := by
          rw [List.map_map]
          refine Nat.le_trans ?_ co7
          generalize (Lst.mk rs st re).lns = l
          induction l with
          | nil => exact Nat.le_refl _
          | cons r l ih =>
            rw [List.map_cons, List.map_cons, List.sum_cons, List.sum_cons]
            have := line_le r
            show (lineT r).length + _ ≤ _
            omega
        refine ⟨"", D3, (Lst.mk rs st re).lns.map lineT, rfl, rfl, .inl (.inl (.inl hD4)), by rw [n0, Nat.mul_zero]; omega, ?_, s1⟩
        rw [TL.join_eq]
        rfl
    rintro σ' H9 ⟨rfl, s9⟩
    have tlen : (Lst.mk rs st re).txt.length ≤ 4700 := Nat.le_trans (own_len _) co7
    have s79 := s8.trans s9
    have h9 := h7.same s79
    have dR9 := dp_same s79 _ _ dR7
    have ts9 := sqt_same s79 ts7
    have tr9 := sqt_same s79 tr7
    have ob9 := ob7.same s79
    clear dR7 ts7 tr7 ob7 h7 s8 s9 s79
    refine ⟨_, rfl, _, rfl, by omega, fun e0 O2 c2 H10 s10 ob2 ok2 tx2 rd2 => ?_, fun ne => absurd (own_bad ok7 hst hre) ne⟩
    have h10 := h9.same s10
    have dR10 := dp_same s10 _ _ dR9
    have ts10 := sqt_same s10 ts9
    have tr10 := sqt_same s10 tr9
    have ob10 := ob9.same s10
    clear dR9 ts9 tr9 ob9 h9 s10 e0
    obtain rfl : c2 = Lst.mk rs st re := by
      have e := own_split ok7
      rw [e, List.dropLast_concat] at rd2
      obtain ⟨e1, e2⟩ := rd2.uniq (own_rdd ok7 hst hre)
      obtain ⟨r2, st2, re2⟩ := c2
      cases e2
      injection e1 with e3 e4
      injection e4 with e4 _
      cases e3
      cases e4
      rfl
    have sok0 := own_sok ok7
    generalize hc : (Lst.mk rs st re) = c0 at *
    refine ⟨fun σ' H' => σ' = [some (.ref a), some (.ref h), some (.ref pt), none, some (.ref ts), some (.ref tr), some (.ref O), some (.ref Ll), none, some (.str c0.txt), none, some (.ref O2), none] ∧ Hand H' h c, ?_, ?_⟩
    · have ec : c0.enc = [.tuple (rs.map Rw.enc), numsD st, numsD re] := by rw [← hc]; rfl
      have shR := sh_rows (rs := rs) fun r m => (hrs r m).1
      refine ⟨_, rfl, O, c0, rfl, ob10, cok, fun H11 s11 => ⟨_, rfl, rfl, _, rfl, ?_⟩⟩
      rw [decS, decide_eq_true rfl]
      refine iteF ?_
      have b2 := ob2.same s11
      have b1 := ob10.same s11
      rw [ec] at b1 b2
      obtain ⟨dx, fs, v, hA, hlk, hv⟩ := b2.fld (f := "rows") 0 rfl rfl (by decide +kernel)
      refine ⟨_, rfl, O2, CJ, dx, fs, v, rfl, hA, C.tJ.ins.cl, C.tJ.no _ (by decide +kernel), hlk, _, rfl, _, _, hv, dp_same s11 _ _ dR10, shR, shR, _, rfl, ?_⟩
      rw [Cm.ne_same' shR]
      refine iteF ?_
      obtain ⟨dx, fs, v, hA, hlk, hv⟩ := b2.fld (f := "starts") 1 rfl rfl (by decide +kernel)
      refine ⟨_, rfl, O2, CJ, dx, fs, v, rfl, hA, C.tJ.ins.cl, C.tJ.no _ (by decide +kernel), hlk, _, rfl, _, _, hv, dp_numsD (sqt_same s11 ts10), sh_nums st, sh_nums st, _, rfl, ?_⟩
      rw [Cm.ne_same' (sh_nums st)]
      refine iteF ?_
      obtain ⟨dx, fs, v, hA, hlk, hv⟩ := b2.fld (f := "returns") 2 rfl rfl (by decide +kernel)
      refine ⟨_, rfl, O2, CJ, dx, fs, v, rfl, hA, C.tJ.ins.cl, C.tJ.no _ (by decide +kernel), hlk, _, rfl, _, _, hv, dp_numsD (sqt_same s11 tr10), sh_nums re, sh_nums re, _, rfl, ?_⟩
      rw [Cm.ne_same' (sh_nums re)]
      have sh3 : ∀ d ∈ ([.tuple (rs.map Rw.enc), numsD st, numsD re] : List PyData), SeqAt.shaped d = true := fun d m => by
        simp only [List.mem_cons, List.not_mem_nil, or_false] at m
        rcases m with rfl | rfl | rfl
        · exact shR
        · exact sh_nums _
        · exact sh_nums _
      refine iteF ⟨_, rfl, _, rfl, eq_ob b2 b1 sh3 sh3 ?_⟩
      rw [eqs_refl _ sh3]
      exact ⟨_, rfl, iteF ⟨rfl, h10.same s11⟩⟩
    rintro σ' H11 ⟨rfl, h11⟩
    refine ⟨_, rfl, h, c, 3, rfl, h11, by decide, by decide, fun d H12 d0 d1 k12 h12 => ⟨_, _, rfl, rfl, _, rfl, by omega, by omega, ?_⟩⟩
    obtain ⟨dn, rfl⟩ : ∃ dn : Nat, d = (dn : Int) := ⟨d.toNat, by omega⟩
    have eto : ((1 : Int) + (dn : Int)).toNat = dn + 1 := by omega
    rw [eto]
    refine for_it (walk_upto (n := dn + 1)) (fun i σ H' => ∃ (x : Str) (v10 v12 : Option V), σ = [some (.ref a), some (.ref h), some (.ref pt), none, some (.ref ts), some (.ref tr), some (.ref O), some (.ref Ll), none, some (.str x), v10, some (.ref O2), v12] ∧ Hand H' h c ∧ sok x ∧ x.length + 8 ≤ 2 ^ i * 4708) ?_ (fun _ _ _ _ _ => trivial) ?_ ?_
    · exact ⟨_, none, none, rfl, h12, sok0, by omega⟩
    · rintro i v σ H13 H14 hi ⟨x, v10, v12, rfl, h13, so, hx⟩ ⟨rfl, rfl⟩
      have hi2 : 2 ^ i ≤ 2 ^ 2 := Nat.pow_le_pow_right (by decide) (by omega)
      have hx2 : x.length ≤ 20000 := by omega
      refine ⟨_, rfl, _, rfl, h, c, x, rfl, h13, by omega, so, fun y H15 hy soy k15 h15 => ?_⟩
      refine ⟨_, rfl, y, rfl, by omega, soy, fun H16 s16 => ?_⟩
      refine ⟨_, rfl, y, rfl, by omega, fun v H17 s17 dv => ?_⟩
      have hn := splS_len 10 y
      have hy2 : y.length + 8 ≤ 2 ^ (i + 1) * 4708 := by rw [Nat.pow_succ]; omega
      have h17 := (h15.same s16).same s17
      unfold readsD at dv
      refine ⟨_, rfl, _, rfl, _, _, rfl, rfl, _, rfl, ?_⟩
      by_cases q : badL (splS 10 y) = 0
      · rw [if_pos q] at dv
        show if decide ((0 : Int) < (badL (splS 10 y) : Nat)) = true then _ else _
        rw [q]
        refine iteF ⟨_, rfl, by show 2 ≤ sizeLine; decide, fun p hp => ?_⟩
        have sp := same_new (o := .tup [.int ((0 : Nat) : Int), .str y]) hp
        have sh : SeqAt.shaped (.tuple [.int 0, .str y]) = true := (Lay.tup (n := 0) fun d m => by
          rcases List.mem_cons.mp m with rfl | m
          · exact .int _ _
          · rw [List.mem_singleton.mp m]
            exact .str soy _).sh (by decide)
        refine ⟨.tuple [.int 0, .str y], .tuple [.int 0, .str y], dp_same sp _ _ dv, .tup (.inl (.inl upd_same)) (.cons (.int _) (.cons (.str _) .nil)), sh, sh, _, rfl, ?_⟩
        rw [Cm.ne_same' sh]
        exact iteF ⟨y, _, _, rfl, h17.same sp, soy, hy2⟩
      · rw [if_neg q] at dv
        show if decide ((0 : Int) < (badL (splS 10 y) : Nat)) = true then _ else _
        rw [decide_eq_true (show (0 : Int) < (badL (splS 10 y) : Nat) by omega)]
        refine iteT ⟨by show 2 ≤ sizeLine; decide, fun p hp => ?_⟩
        have sp := same_new (o := .tup [.int (badL (splS 10 y) : Nat), .str ""]) hp
        have sh : SeqAt.shaped (.tuple [.int (badL (splS 10 y) : Nat), .str ""]) = true := (Lay.tup (n := 0) fun d m => by
          rcases List.mem_cons.mp m with rfl | m
          · exact .int _ _
          · rw [List.mem_singleton.mp m]
            exact .str (by decide +kernel) _).sh (by decide)
        refine ⟨_, .tuple [.int (badL (splS 10 y) : Nat), .str ""], dp_same sp _ _ dv, .tup (.inl (.inl upd_same)) (.cons (.int _) (.cons (.str _) .nil)), sh, sh, _, rfl, ?_⟩
        rw [Cm.ne_same' sh]
        exact iteF ⟨y, _, _, rfl, h17.same sp, soy, hy2⟩
    · rintro σ H13 ⟨x, v10, v12, rfl, h13, so, hx⟩
      exact k _
end
end K32

namespace K32
open PySem L2 Cm
theorem all_nil {α : Type} {P : α → Prop} : ∀ x ∈ ([] : List α), P x := fun x m => by cases m
theorem all_cons {α : Type} {P : α → Prop} {a : α} {l : List α} (h : P a) (r : ∀ x ∈ l, P x) : ∀ x ∈ a :: l, P x := fun x m => by
  rcases List.mem_cons.mp m with rfl | m
  · exact h
  · exact r x m
section
variable {P : Program} {w : World} {K : PySem.W.Frag} {mg : Str → Option Value} {base : Heap}
abbrev i_BadListing : Stmt := iniS (top 3)
theorem sc_BadListing : FnScope ["self", "line"] ["self", "line"] (defScope i_BadListing) := ⟨rfl, rfl, rfl, by decide +kernel, rfl, by decide +kernel, by decide +kernel⟩
theorem ok_BadListing {f : Addr} {fd : FuncData} (F : Fun K "__init__" "BadListing.__init__" i_BadListing f fd) : FnOk P w K mg base CX0 1 f fd ["self", "line"] (spI K ["line"]) := by
  refine F.ok sc_BadListing (fun vs H Q E h => ?_) (fun cdv A outer s H vs Q E hr h => ?_)
  · obtain ⟨a, C, xs, rfl, hl, _⟩ := h
    show xs.length + 1 = _
    rw [hl]
    rfl
  · obtain ⟨a, C, xs, rfl, hl, T, no, ha, k⟩ := h
    obtain ⟨x, rfl⟩ := one_of hl
    refine ⟨_, (pss_one (ps_ost (pv 0) (pv 1))), ?_⟩
    exact ⟨_, rfl, _, rfl, init1 T (no _ List.mem_cons_self) ha fun d H' hd ne keep ea ed => k d H' hd ne keep ea ed⟩
end
theorem at_mk {K : PySem.W.Frag} {h : Heap} {mg : Str → Option Value} {x : Str} {st : Stmt} {ps : List Str} {f : Addr} {oc : Value} {od an : Option Addr} {osl : Array (Option Value)} {kV doc pm cdv ct : Value} (X : K.In h) (G : h.Ns mainGlobals mg)
    (a : PySem.W.nsIn K mainGlobals x = some (some (.ref f))) (l : K.lookup f = some ⟨oc, od, .func (PySem.W.fnOf x x (defArgs st) (defBody st) (defScope st) .none kV doc pm an cdv ct), osl⟩) (c : PySem.W.codeIn K cdv x = true) (k : PySem.W.keepIn K (.ref f) = true)
    (b : ∀ (kV doc pm : Value) (an : Option Addr) (cdv ct : Value) (us : List Value), us.length = ps.length → bindArgs (PySem.W.fnOf x x (defArgs st) (defBody st) (defScope st) .none kV doc pm an cdv ct) ⟨us, []⟩ = pure (ps.zip us)) : At K mg x st ps :=
  ⟨_, _, fun_mk l c k, PySem.W.mg_of X G a, (fun_mk l c k).binds b⟩
theorem all_mk {l : PySem.W.OpenLaw} {w : World} {K : PySem.W.Frag} {h : Heap} {mg : Str → Option Value} {fa f0 f1 f2 f3 f4 f5 f6 f7 f8 f9 f10 f11 f12 f13 f14 f15 f16 f17 f18 f19 f20 f21 f22 f23 f24 f25 f26 f27 f28 f29 : Addr} (X : K.In h) (G : h.Ns mainGlobals mg) (hfa : mg "law" = some (.ref fa))
    {od0 an0 : Option Addr} {sl0 : Array (Option Value)} {oc0 kV0 dc0 pm0 cd0 ct0 : Value} (a0 : PySem.W.nsIn K mainGlobals "_law_mix" = some (some (.ref f0))) (l0 : K.lookup f0 = some ⟨oc0, od0, .func (PySem.W.fnOf "_law_mix" "_law_mix" (defArgs s_l_mix) (defBody s_l_mix) (defScope s_l_mix) .none kV0 dc0 pm0 an0 cd0 ct0), sl0⟩) (c0 : PySem.W.codeIn K cd0 "_law_mix" = true) (k0 : PySem.W.keepIn K (.ref f0) = true)
    {od1 an1 : Option Addr} {sl1 : Array (Option Value)} {oc1 kV1 dc1 pm1 cd1 ct1 : Value} (a1 : PySem.W.nsIn K mainGlobals "_law_hand" = some (some (.ref f1))) (l1 : K.lookup f1 = some ⟨oc1, od1, .func (PySem.W.fnOf "_law_hand" "_law_hand" (defArgs s_l_hand) (defBody s_l_hand) (defScope s_l_hand) .none kV1 dc1 pm1 an1 cd1 ct1), sl1⟩) (c1 : PySem.W.codeIn K cd1 "_law_hand" = true) (k1 : PySem.W.keepIn K (.ref f1) = true)
    {od2 an2 : Option Addr} {sl2 : Array (Option Value)} {oc2 kV2 dc2 pm2 cd2 ct2 : Value} (a2 : PySem.W.nsIn K mainGlobals "_law_draw" = some (some (.ref f2))) (l2 : K.lookup f2 = some ⟨oc2, od2, .func (PySem.W.fnOf "_law_draw" "_law_draw" (defArgs s_l_draw) (defBody s_l_draw) (defScope s_l_draw) .none kV2 dc2 pm2 an2 cd2 ct2), sl2⟩) (c2 : PySem.W.codeIn K cd2 "_law_draw" = true) (k2 : PySem.W.keepIn K (.ref f2) = true)
    {od3 an3 : Option Addr} {sl3 : Array (Option Value)} {oc3 kV3 dc3 pm3 cd3 ct3 : Value} (a3 : PySem.W.nsIn K mainGlobals "_law_pick" = some (some (.ref f3))) (l3 : K.lookup f3 = some ⟨oc3, od3, .func (PySem.W.fnOf "_law_pick" "_law_pick" (defArgs s_l_pick) (defBody s_l_pick) (defScope s_l_pick) .none kV3 dc3 pm3 an3 cd3 ct3), sl3⟩) (c3 : PySem.W.codeIn K cd3 "_law_pick" = true) (k3 : PySem.W.keepIn K (.ref f3) = true)
    {od4 an4 : Option Addr} {sl4 : Array (Option Value)} {oc4 kV4 dc4 pm4 cd4 ct4 : Value} (a4 : PySem.W.nsIn K mainGlobals "is_number" = some (some (.ref f4))) (l4 : K.lookup f4 = some ⟨oc4, od4, .func (PySem.W.fnOf "is_number" "is_number" (defArgs s_p_is_number) (defBody s_p_is_number) (defScope s_p_is_number) .none kV4 dc4 pm4 an4 cd4 ct4), sl4⟩) (c4 : PySem.W.codeIn K cd4 "is_number" = true) (k4 : PySem.W.keepIn K (.ref f4) = true)
    {od5 an5 : Option Addr} {sl5 : Array (Option Value)} {oc5 kV5 dc5 pm5 cd5 ct5 : Value} (a5 : PySem.W.nsIn K mainGlobals "is_op" = some (some (.ref f5))) (l5 : K.lookup f5 = some ⟨oc5, od5, .func (PySem.W.fnOf "is_op" "is_op" (defArgs s_p_is_op) (defBody s_p_is_op) (defScope s_p_is_op) .none kV5 dc5 pm5 an5 cd5 ct5), sl5⟩) (c5 : PySem.W.codeIn K cd5 "is_op" = true) (k5 : PySem.W.keepIn K (.ref f5) = true)
    {od6 an6 : Option Addr} {sl6 : Array (Option Value)} {oc6 kV6 dc6 pm6 cd6 ct6 : Value} (a6 : PySem.W.nsIn K mainGlobals "jump_text" = some (some (.ref f6))) (l6 : K.lookup f6 = some ⟨oc6, od6, .func (PySem.W.fnOf "jump_text" "jump_text" (defArgs s_p_jump_text) (defBody s_p_jump_text) (defScope s_p_jump_text) .none kV6 dc6 pm6 an6 cd6 ct6), sl6⟩) (c6 : PySem.W.codeIn K cd6 "jump_text" = true) (k6 : PySem.W.keepIn K (.ref f6) = true)
    {od7 an7 : Option Addr} {sl7 : Array (Option Value)} {oc7 kV7 dc7 pm7 cd7 ct7 : Value} (a7 : PySem.W.nsIn K mainGlobals "_texts_of" = some (some (.ref f7))) (l7 : K.lookup f7 = some ⟨oc7, od7, .func (PySem.W.fnOf "_texts_of" "_texts_of" (defArgs s_p_texts_of) (defBody s_p_texts_of) (defScope s_p_texts_of) .none kV7 dc7 pm7 an7 cd7 ct7), sl7⟩) (c7 : PySem.W.codeIn K cd7 "_texts_of" = true) (k7 : PySem.W.keepIn K (.ref f7) = true)
    {od8 an8 : Option Addr} {sl8 : Array (Option Value)} {oc8 kV8 dc8 pm8 cd8 ct8 : Value} (a8 : PySem.W.nsIn K mainGlobals "_words_of" = some (some (.ref f8))) (l8 : K.lookup f8 = some ⟨oc8, od8, .func (PySem.W.fnOf "_words_of" "_words_of" (defArgs s_p_words_of) (defBody s_p_words_of) (defScope s_p_words_of) .none kV8 dc8 pm8 an8 cd8 ct8), sl8⟩) (c8 : PySem.W.codeIn K cd8 "_words_of" = true) (k8 : PySem.W.keepIn K (.ref f8) = true)
    {od9 an9 : Option Addr} {sl9 : Array (Option Value)} {oc9 kV9 dc9 pm9 cd9 ct9 : Value} (a9 : PySem.W.nsIn K mainGlobals "read_jumps" = some (some (.ref f9))) (l9 : K.lookup f9 = some ⟨oc9, od9, .func (PySem.W.fnOf "read_jumps" "read_jumps" (defArgs s_p_read_jumps) (defBody s_p_read_jumps) (defScope s_p_read_jumps) .none kV9 dc9 pm9 an9 cd9 ct9), sl9⟩) (c9 : PySem.W.codeIn K cd9 "read_jumps" = true) (k9 : PySem.W.keepIn K (.ref f9) = true)
    {od10 an10 : Option Addr} {sl10 : Array (Option Value)} {oc10 kV10 dc10 pm10 cd10 ct10 : Value} (a10 : PySem.W.nsIn K mainGlobals "_row_of" = some (some (.ref f10))) (l10 : K.lookup f10 = some ⟨oc10, od10, .func (PySem.W.fnOf "_row_of" "_row_of" (defArgs s_p_row_of) (defBody s_p_row_of) (defScope s_p_row_of) .none kV10 dc10 pm10 an10 cd10 ct10), sl10⟩) (c10 : PySem.W.codeIn K cd10 "_row_of" = true) (k10 : PySem.W.keepIn K (.ref f10) = true)
    {od11 an11 : Option Addr} {sl11 : Array (Option Value)} {oc11 kV11 dc11 pm11 cd11 ct11 : Value} (a11 : PySem.W.nsIn K mainGlobals "_item_of" = some (some (.ref f11))) (l11 : K.lookup f11 = some ⟨oc11, od11, .func (PySem.W.fnOf "_item_of" "_item_of" (defArgs s_p_item_of) (defBody s_p_item_of) (defScope s_p_item_of) .none kV11 dc11 pm11 an11 cd11 ct11), sl11⟩) (c11 : PySem.W.codeIn K cd11 "_item_of" = true) (k11 : PySem.W.keepIn K (.ref f11) = true)
    {od12 an12 : Option Addr} {sl12 : Array (Option Value)} {oc12 kV12 dc12 pm12 cd12 ct12 : Value} (a12 : PySem.W.nsIn K mainGlobals "_number_of" = some (some (.ref f12))) (l12 : K.lookup f12 = some ⟨oc12, od12, .func (PySem.W.fnOf "_number_of" "_number_of" (defArgs s_p_number_of) (defBody s_p_number_of) (defScope s_p_number_of) .none kV12 dc12 pm12 an12 cd12 ct12), sl12⟩) (c12 : PySem.W.codeIn K cd12 "_number_of" = true) (k12 : PySem.W.keepIn K (.ref f12) = true)
    {od13 an13 : Option Addr} {sl13 : Array (Option Value)} {oc13 kV13 dc13 pm13 cd13 ct13 : Value} (a13 : PySem.W.nsIn K mainGlobals "_numbers_of" = some (some (.ref f13))) (l13 : K.lookup f13 = some ⟨oc13, od13, .func (PySem.W.fnOf "_numbers_of" "_numbers_of" (defArgs s_p_numbers_of) (defBody s_p_numbers_of) (defScope s_p_numbers_of) .none kV13 dc13 pm13 an13 cd13 ct13), sl13⟩) (c13 : PySem.W.codeIn K cd13 "_numbers_of" = true) (k13 : PySem.W.keepIn K (.ref f13) = true)
    {od14 an14 : Option Addr} {sl14 : Array (Option Value)} {oc14 kV14 dc14 pm14 cd14 ct14 : Value} (a14 : PySem.W.nsIn K mainGlobals "_pairs_of" = some (some (.ref f14))) (l14 : K.lookup f14 = some ⟨oc14, od14, .func (PySem.W.fnOf "_pairs_of" "_pairs_of" (defArgs s_p_pairs_of) (defBody s_p_pairs_of) (defScope s_p_pairs_of) .none kV14 dc14 pm14 an14 cd14 ct14), sl14⟩) (c14 : PySem.W.codeIn K cd14 "_pairs_of" = true) (k14 : PySem.W.keepIn K (.ref f14) = true)
    {od15 an15 : Option Addr} {sl15 : Array (Option Value)} {oc15 kV15 dc15 pm15 cd15 ct15 : Value} (a15 : PySem.W.nsIn K mainGlobals "_law_number" = some (some (.ref f15))) (l15 : K.lookup f15 = some ⟨oc15, od15, .func (PySem.W.fnOf "_law_number" "_law_number" (defArgs s_l_number) (defBody s_l_number) (defScope s_l_number) .none kV15 dc15 pm15 an15 cd15 ct15), sl15⟩) (c15 : PySem.W.codeIn K cd15 "_law_number" = true) (k15 : PySem.W.keepIn K (.ref f15) = true)
    {od16 an16 : Option Addr} {sl16 : Array (Option Value)} {oc16 kV16 dc16 pm16 cd16 ct16 : Value} (a16 : PySem.W.nsIn K mainGlobals "_law_numbers" = some (some (.ref f16))) (l16 : K.lookup f16 = some ⟨oc16, od16, .func (PySem.W.fnOf "_law_numbers" "_law_numbers" (defArgs s_l_numbers) (defBody s_l_numbers) (defScope s_l_numbers) .none kV16 dc16 pm16 an16 cd16 ct16), sl16⟩) (c16 : PySem.W.codeIn K cd16 "_law_numbers" = true) (k16 : PySem.W.keepIn K (.ref f16) = true)
    {od17 an17 : Option Addr} {sl17 : Array (Option Value)} {oc17 kV17 dc17 pm17 cd17 ct17 : Value} (a17 : PySem.W.nsIn K mainGlobals "_law_value" = some (some (.ref f17))) (l17 : K.lookup f17 = some ⟨oc17, od17, .func (PySem.W.fnOf "_law_value" "_law_value" (defArgs s_l_value) (defBody s_l_value) (defScope s_l_value) .none kV17 dc17 pm17 an17 cd17 ct17), sl17⟩) (c17 : PySem.W.codeIn K cd17 "_law_value" = true) (k17 : PySem.W.keepIn K (.ref f17) = true)
    {od18 an18 : Option Addr} {sl18 : Array (Option Value)} {oc18 kV18 dc18 pm18 cd18 ct18 : Value} (a18 : PySem.W.nsIn K mainGlobals "_law_instruction" = some (some (.ref f18))) (l18 : K.lookup f18 = some ⟨oc18, od18, .func (PySem.W.fnOf "_law_instruction" "_law_instruction" (defArgs s_l_instruction) (defBody s_l_instruction) (defScope s_l_instruction) .none kV18 dc18 pm18 an18 cd18 ct18), sl18⟩) (c18 : PySem.W.codeIn K cd18 "_law_instruction" = true) (k18 : PySem.W.keepIn K (.ref f18) = true)
    {od19 an19 : Option Addr} {sl19 : Array (Option Value)} {oc19 kV19 dc19 pm19 cd19 ct19 : Value} (a19 : PySem.W.nsIn K mainGlobals "_law_joined" = some (some (.ref f19))) (l19 : K.lookup f19 = some ⟨oc19, od19, .func (PySem.W.fnOf "_law_joined" "_law_joined" (defArgs s_l_joined) (defBody s_l_joined) (defScope s_l_joined) .none kV19 dc19 pm19 an19 cd19 ct19), sl19⟩) (c19 : PySem.W.codeIn K cd19 "_law_joined" = true) (k19 : PySem.W.keepIn K (.ref f19) = true)
    {od20 an20 : Option Addr} {sl20 : Array (Option Value)} {oc20 kV20 dc20 pm20 cd20 ct20 : Value} (a20 : PySem.W.nsIn K mainGlobals "_law_line" = some (some (.ref f20))) (l20 : K.lookup f20 = some ⟨oc20, od20, .func (PySem.W.fnOf "_law_line" "_law_line" (defArgs s_l_line) (defBody s_l_line) (defScope s_l_line) .none kV20 dc20 pm20 an20 cd20 ct20), sl20⟩) (c20 : PySem.W.codeIn K cd20 "_law_line" = true) (k20 : PySem.W.keepIn K (.ref f20) = true)
    {od21 an21 : Option Addr} {sl21 : Array (Option Value)} {oc21 kV21 dc21 pm21 cd21 ct21 : Value} (a21 : PySem.W.nsIn K mainGlobals "_law_is_number" = some (some (.ref f21))) (l21 : K.lookup f21 = some ⟨oc21, od21, .func (PySem.W.fnOf "_law_is_number" "_law_is_number" (defArgs s_l_is_number) (defBody s_l_is_number) (defScope s_l_is_number) .none kV21 dc21 pm21 an21 cd21 ct21), sl21⟩) (c21 : PySem.W.codeIn K cd21 "_law_is_number" = true) (k21 : PySem.W.keepIn K (.ref f21) = true)
    {od22 an22 : Option Addr} {sl22 : Array (Option Value)} {oc22 kV22 dc22 pm22 cd22 ct22 : Value} (a22 : PySem.W.nsIn K mainGlobals "_law_are_numbers" = some (some (.ref f22))) (l22 : K.lookup f22 = some ⟨oc22, od22, .func (PySem.W.fnOf "_law_are_numbers" "_law_are_numbers" (defArgs s_l_are_numbers) (defBody s_l_are_numbers) (defScope s_l_are_numbers) .none kV22 dc22 pm22 an22 cd22 ct22), sl22⟩) (c22 : PySem.W.codeIn K cd22 "_law_are_numbers" = true) (k22 : PySem.W.keepIn K (.ref f22) = true)
    {od23 an23 : Option Addr} {sl23 : Array (Option Value)} {oc23 kV23 dc23 pm23 cd23 ct23 : Value} (a23 : PySem.W.nsIn K mainGlobals "_law_is_value" = some (some (.ref f23))) (l23 : K.lookup f23 = some ⟨oc23, od23, .func (PySem.W.fnOf "_law_is_value" "_law_is_value" (defArgs s_l_is_value) (defBody s_l_is_value) (defScope s_l_is_value) .none kV23 dc23 pm23 an23 cd23 ct23), sl23⟩) (c23 : PySem.W.codeIn K cd23 "_law_is_value" = true) (k23 : PySem.W.keepIn K (.ref f23) = true)
    {od24 an24 : Option Addr} {sl24 : Array (Option Value)} {oc24 kV24 dc24 pm24 cd24 ct24 : Value} (a24 : PySem.W.nsIn K mainGlobals "_law_good_rec" = some (some (.ref f24))) (l24 : K.lookup f24 = some ⟨oc24, od24, .func (PySem.W.fnOf "_law_good_rec" "_law_good_rec" (defArgs s_l_good_rec) (defBody s_l_good_rec) (defScope s_l_good_rec) .none kV24 dc24 pm24 an24 cd24 ct24), sl24⟩) (c24 : PySem.W.codeIn K cd24 "_law_good_rec" = true) (k24 : PySem.W.keepIn K (.ref f24) = true)
    {od25 an25 : Option Addr} {sl25 : Array (Option Value)} {oc25 kV25 dc25 pm25 cd25 ct25 : Value} (a25 : PySem.W.nsIn K mainGlobals "_law_good_line" = some (some (.ref f25))) (l25 : K.lookup f25 = some ⟨oc25, od25, .func (PySem.W.fnOf "_law_good_line" "_law_good_line" (defArgs s_l_good_line) (defBody s_l_good_line) (defScope s_l_good_line) .none kV25 dc25 pm25 an25 cd25 ct25), sl25⟩) (c25 : PySem.W.codeIn K cd25 "_law_good_line" = true) (k25 : PySem.W.keepIn K (.ref f25) = true)
    {od26 an26 : Option Addr} {sl26 : Array (Option Value)} {oc26 kV26 dc26 pm26 cd26 ct26 : Value} (a26 : PySem.W.nsIn K mainGlobals "_law_bad_line" = some (some (.ref f26))) (l26 : K.lookup f26 = some ⟨oc26, od26, .func (PySem.W.fnOf "_law_bad_line" "_law_bad_line" (defArgs s_l_bad_line) (defBody s_l_bad_line) (defScope s_l_bad_line) .none kV26 dc26 pm26 an26 cd26 ct26), sl26⟩) (c26 : PySem.W.codeIn K cd26 "_law_bad_line" = true) (k26 : PySem.W.keepIn K (.ref f26) = true)
    {od27 an27 : Option Addr} {sl27 : Array (Option Value)} {oc27 kV27 dc27 pm27 cd27 ct27 : Value} (a27 : PySem.W.nsIn K mainGlobals "_law_changed" = some (some (.ref f27))) (l27 : K.lookup f27 = some ⟨oc27, od27, .func (PySem.W.fnOf "_law_changed" "_law_changed" (defArgs s_l_changed) (defBody s_l_changed) (defScope s_l_changed) .none kV27 dc27 pm27 an27 cd27 ct27), sl27⟩) (c27 : PySem.W.codeIn K cd27 "_law_changed" = true) (k27 : PySem.W.keepIn K (.ref f27) = true)
    {od28 an28 : Option Addr} {sl28 : Array (Option Value)} {oc28 kV28 dc28 pm28 cd28 ct28 : Value} (a28 : PySem.W.nsIn K mainGlobals "_law_reads" = some (some (.ref f28))) (l28 : K.lookup f28 = some ⟨oc28, od28, .func (PySem.W.fnOf "_law_reads" "_law_reads" (defArgs s_l_reads) (defBody s_l_reads) (defScope s_l_reads) .none kV28 dc28 pm28 an28 cd28 ct28), sl28⟩) (c28 : PySem.W.codeIn K cd28 "_law_reads" = true) (k28 : PySem.W.keepIn K (.ref f28) = true)
    {od29 an29 : Option Addr} {sl29 : Array (Option Value)} {oc29 kV29 dc29 pm29 cd29 ct29 : Value} (a29 : PySem.W.nsIn K mainGlobals "law" = some (some (.ref f29))) (l29 : K.lookup f29 = some ⟨oc29, od29, .func (PySem.W.fnOf "law" "law" (defArgs s_law) (defBody s_law) (defScope s_law) .none kV29 dc29 pm29 an29 cd29 ct29), sl29⟩) (c29 : PySem.W.codeIn K cd29 "law" = true) (k29 : PySem.W.keepIn K (.ref f29) = true)
    (z_abs : PySem.W.nsIn K mainGlobals "abs" = some none)
    (z_enumerate : PySem.W.nsIn K mainGlobals "enumerate" = some none)
    (z_int : PySem.W.nsIn K mainGlobals "int" = some none)
    (z_isinstance : PySem.W.nsIn K mainGlobals "isinstance" = some none)
    (z_len : PySem.W.nsIn K mainGlobals "len" = some none)
    (z_list : PySem.W.nsIn K mainGlobals "list" = some none)
    (z_range : PySem.W.nsIn K mainGlobals "range" = some none)
    (z_str : PySem.W.nsIn K mainGlobals "str" = some none)
    (z_tuple : PySem.W.nsIn K mainGlobals "tuple" = some none)
    (z_zip : PySem.W.nsIn K mainGlobals "zip" = some none)
    {tk_MOST_FIGURES : Tok} (g_MOST_FIGURES : PySem.W.nsIn K mainGlobals "MOST_FIGURES" = some (some (.int 5 tk_MOST_FIGURES)))
    {tk_GREATEST : Tok} (g_GREATEST : PySem.W.nsIn K mainGlobals "GREATEST" = some (some (.int 1000000000 tk_GREATEST)))
    {tk_FIGURES : Tok} (g_FIGURES : PySem.W.nsIn K mainGlobals "FIGURES" = some (some (.str "0123456789" tk_FIGURES)))
    {ca_CONSTANTS_jumptext : Addr} {od_CONSTANTS_jumptext : Option Addr} {n_CONSTANTS_jumptext : Nat} {sl_CONSTANTS_jumptext : Array (Option Value)} {tk0_CONSTANTS_jumptext tk1_CONSTANTS_jumptext tk2_CONSTANTS_jumptext : Tok} (g_CONSTANTS_jumptext : PySem.W.nsIn K mainGlobals "CONSTANTS_jumptext" = some (some (.ref ca_CONSTANTS_jumptext))) (v_CONSTANTS_jumptext : K.lookup ca_CONSTANTS_jumptext = some ⟨.type "tuple", od_CONSTANTS_jumptext, .seq #[.str "true" tk0_CONSTANTS_jumptext, .str "false" tk1_CONSTANTS_jumptext, .str "none" tk2_CONSTANTS_jumptext] n_CONSTANTS_jumptext, sl_CONSTANTS_jumptext⟩)
    {CJumpCode : Addr} {fJumpCode_init : Addr} {odJumpCode_init anJumpCode_init : Option Addr} {slJumpCode_init : Array (Option Value)} {ocJumpCode_init kVJumpCode_init dcJumpCode_init pmJumpCode_init cdJumpCode_init ctJumpCode_init : Value} {fJumpCode_eq : Addr} {odJumpCode_eq anJumpCode_eq : Option Addr} {slJumpCode_eq : Array (Option Value)} {ocJumpCode_eq kVJumpCode_eq dcJumpCode_eq pmJumpCode_eq cdJumpCode_eq ctJumpCode_eq : Value} {R : Addr} {CBadListing IBadListing : Addr} {nmBadListing qBadListing : Str} {NBadListing : Addr} {bsBadListing : List Value} {snBadListing : List Str} {subBadListing : List Value} {abBadListing : Bool} {colBadListing : Option Bool} {ddBadListing : Option Addr} {m0BadListing m1BadListing m2BadListing m3BadListing m5BadListing : Option Value} {odBadListing anBadListing : Option Addr} {slBadListing : Array (Option Value)} {ocBadListing kVBadListing dcBadListing pmBadListing cdBadListing ctBadListing : Value}  {cC cS cL : Addr} {esC esS esL : Array DictEntry} {nC nS_ nL : Nat}
    (hnG : PySem.W.specialIn K (.builtin "object.__class__") "__get__" = some (some (.builtin "getset_descriptor.__get__")))
    (htG : PySem.W.takesIn K (.builtin "object.__class__") = some true)
    (aJumpCode : PySem.W.nsIn K mainGlobals "JumpCode" = some (some (.ref CJumpCode)))
    (pgJumpCode : PySem.W.plainGet K CJumpCode Str.empty = true)
    (hdJumpCode : PySem.W.hasDictIn K CJumpCode = true)
    (poJumpCode : PySem.W.plainOver K CJumpCode = true)
    (saJumpCode : PySem.W.findIn K (.ref CJumpCode) "__setattr__" = some (some (.builtin "object.__setattr__")))
    (mkJumpCode : PySem.W.makesIn K CJumpCode = true)
    (kcJumpCode : PySem.W.keepIn K (.ref CJumpCode) = true)
    (haJumpCode : PySem.W.findIn K (.ref CJumpCode) "__class__" = some (some (.builtin "object.__class__")))
    (hmJumpCode : PySem.W.mroIn K CJumpCode (.type "object") = some true)
    (noJumpCode_rows : PySem.W.findIn K (.ref CJumpCode) "rows" = some none)
    (noJumpCode_starts : PySem.W.findIn K (.ref CJumpCode) "starts" = some none)
    (noJumpCode_returns : PySem.W.findIn K (.ref CJumpCode) "returns" = some none)
    (gJumpCode_init : PySem.W.findIn K (.ref CJumpCode) "__init__" = some (some (.ref fJumpCode_init)))
    (jJumpCode_init : PySem.W.isFn K (.ref fJumpCode_init) = true)
    (lJumpCode_init : K.lookup fJumpCode_init = some ⟨ocJumpCode_init, odJumpCode_init, .func (PySem.W.fnOf "__init__" "JumpCode.__init__" (defArgs s_JI) (defBody s_JI) (defScope s_JI) .none kVJumpCode_init dcJumpCode_init pmJumpCode_init anJumpCode_init cdJumpCode_init ctJumpCode_init), slJumpCode_init⟩)
    (cJumpCode_init : PySem.W.codeIn K cdJumpCode_init "JumpCode.__init__" = true)
    (kJumpCode_init : PySem.W.keepIn K (.ref fJumpCode_init) = true)
    (gJumpCode_eq : PySem.W.findIn K (.ref CJumpCode) "__eq__" = some (some (.ref fJumpCode_eq)))
    (jJumpCode_eq : PySem.W.isFn K (.ref fJumpCode_eq) = true)
    (lJumpCode_eq : K.lookup fJumpCode_eq = some ⟨ocJumpCode_eq, odJumpCode_eq, .func (PySem.W.fnOf "__eq__" "JumpCode.__eq__" (defArgs s_JE) (defBody s_JE) (defScope s_JE) .none kVJumpCode_eq dcJumpCode_eq pmJumpCode_eq anJumpCode_eq cdJumpCode_eq ctJumpCode_eq), slJumpCode_eq⟩)
    (cJumpCode_eq : PySem.W.codeIn K cdJumpCode_eq "JumpCode.__eq__" = true)
    (kJumpCode_eq : PySem.W.keepIn K (.ref fJumpCode_eq) = true)
    (aBadListing : PySem.W.nsIn K mainGlobals "BadListing" = some (some (.ref CBadListing)))
    (xBadListing : K.lookup CBadListing = some (excClassObj nmBadListing qBadListing CBadListing NBadListing bsBadListing [.ref R, .type "ValueError", .type "Exception", .type "BaseException", .type "object"] true snBadListing subBadListing abBadListing colBadListing ddBadListing m0BadListing m1BadListing m2BadListing m3BadListing m5BadListing "ValueError.__new__"))
    (iBadListing : PySem.W.findIn K (.ref CBadListing) "__init__" = some (some (.ref IBadListing)))
    (lBadListing : K.lookup IBadListing = some ⟨ocBadListing, odBadListing, .func (PySem.W.fnOf "__init__" "BadListing.__init__" (defArgs i_BadListing) (defBody i_BadListing) (defScope i_BadListing) .none kVBadListing dcBadListing pmBadListing anBadListing cdBadListing ctBadListing), slBadListing⟩)
    (cBadListing : PySem.W.codeIn K cdBadListing "BadListing.__init__" = true)
    (oBadListing : clsB K CBadListing IBadListing ["line"] = true)
    (sBadListing : PySem.W.subIn K (.ref CBadListing) (.ref CBadListing) = some true)
    (aCO : PySem.W.nsIn K mainGlobals "COUNTS" = some (some (.ref cC)))
    (lCO : K.lookup cC = some ⟨.type "dict", none, .dict esC nC, #[]⟩)
    (kCO : PySem.W.KeysLit w.params esC.toList)
    (dCO : dkB K cC headW = true)
    (nCO : inB K cC headW = true)
    (aSH : PySem.W.nsIn K mainGlobals "SHAPES" = some (some (.ref cS)))
    (lSH : K.lookup cS = some ⟨.type "dict", none, .dict esS nS_, #[]⟩)
    (kSH : PySem.W.KeysLit w.params esS.toList)
    (dSH : dkB K cS shapeW = true)
    (nSH : inB K cS shapeW = true)
    (aSL : PySem.W.nsIn K mainGlobals "SHAPES_OF_LINES" = some (some (.ref cL)))
    (lSL : K.lookup cL = some ⟨.type "dict", none, .dict esL nL, #[]⟩)
    (kSL : PySem.W.KeysLit w.params esL.toList)
    (dSL : dkB K cL (shapesT.map (·.1)) = true)
    (nSL : shpB K cL shapesT = true)
    (aRJ : PySem.W.nsIn K mainGlobals "row_of_jumptext" = some (some (.ref f10)))
    : ∃ fd : FuncData, (∀ (s : Shared) (v : Value), BindsTo s fd ⟨[v], []⟩ [("_law_script", v)]) ∧ ∀ base : Heap, K.In base → base.Ns mainGlobals mg → LawAt l.prog w K mg base 7 fa fd ["_law_script"] (spLaw K) := by
  have e := hfa.symm.trans (PySem.W.mg_of X G a29)
  cases e
  have T : Txt mg := ⟨PySem.W.mg_none_of X G z_abs, PySem.W.mg_none_of X G z_enumerate, PySem.W.mg_none_of X G z_int, PySem.W.mg_none_of X G z_isinstance, PySem.W.mg_none_of X G z_len, PySem.W.mg_none_of X G z_list, PySem.W.mg_none_of X G z_range, PySem.W.mg_none_of X G z_str, PySem.W.mg_none_of X G z_tuple, PySem.W.mg_none_of X G z_zip⟩
  have D_mix := at_mk (st := s_l_mix) (ps := ["_law_number_here", "_law_turn"]) X G a0 l0 c0 k0 fun _ _ _ _ _ _ us hl => match us, hl with | [_, _], _ => rfl
  have D_hand := at_mk (st := s_l_hand) (ps := ["_law_script"]) X G a1 l1 c1 k1 fun _ _ _ _ _ _ us hl => match us, hl with | [_], _ => rfl
  have D_draw := at_mk (st := s_l_draw) (ps := ["_law_hand_here", "_law_many"]) X G a2 l2 c2 k2 fun _ _ _ _ _ _ us hl => match us, hl with | [_, _], _ => rfl
  have D_pick := at_mk (st := s_l_pick) (ps := ["_law_hand_here", "_law_things"]) X G a3 l3 c3 k3 fun _ _ _ _ _ _ us hl => match us, hl with | [_, _], _ => rfl
  have D_num := at_mk (st := s_p_is_number) (ps := ["word"]) X G a4 l4 c4 k4 fun _ _ _ _ _ _ us hl => match us, hl with | [_], _ => rfl
  have D_op := at_mk (st := s_p_is_op) (ps := ["word"]) X G a5 l5 c5 k5 fun _ _ _ _ _ _ us hl => match us, hl with | [_], _ => rfl
  have D_jtext := at_mk (st := s_p_jump_text) (ps := ["code"]) X G a6 l6 c6 k6 fun _ _ _ _ _ _ us hl => match us, hl with | [_], _ => rfl
  have D_texts := at_mk (st := s_p_texts_of) (ps := ["numbers"]) X G a7 l7 c7 k7 fun _ _ _ _ _ _ us hl => match us, hl with | [_], _ => rfl
  have D_words := at_mk (st := s_p_words_of) (ps := ["row"]) X G a8 l8 c8 k8 fun _ _ _ _ _ _ us hl => match us, hl with | [_], _ => rfl
  have D_read := at_mk (st := s_p_read_jumps) (ps := ["text"]) X G a9 l9 c9 k9 fun _ _ _ _ _ _ us hl => match us, hl with | [_], _ => rfl
  have D_row := at_mk (st := s_p_row_of) (ps := ["words"]) X G a10 l10 c10 k10 fun _ _ _ _ _ _ us hl => match us, hl with | [_], _ => rfl
  have D_item := at_mk (st := s_p_item_of) (ps := ["shape", "word"]) X G a11 l11 c11 k11 fun _ _ _ _ _ _ us hl => match us, hl with | [_, _], _ => rfl
  have D_numof := at_mk (st := s_p_number_of) (ps := ["word"]) X G a12 l12 c12 k12 fun _ _ _ _ _ _ us hl => match us, hl with | [_], _ => rfl
  have D_numsof := at_mk (st := s_p_numbers_of) (ps := ["words"]) X G a13 l13 c13 k13 fun _ _ _ _ _ _ us hl => match us, hl with | [_], _ => rfl
  have D_pairs := at_mk (st := s_p_pairs_of) (ps := ["words"]) X G a14 l14 c14 k14 fun _ _ _ _ _ _ us hl => match us, hl with | [_], _ => rfl
  have D_lnumber := at_mk (st := s_l_number) (ps := ["_law_hand_here"]) X G a15 l15 c15 k15 fun _ _ _ _ _ _ us hl => match us, hl with | [_], _ => rfl
  have D_lnumbers := at_mk (st := s_l_numbers) (ps := ["_law_hand_here", "_law_many"]) X G a16 l16 c16 k16 fun _ _ _ _ _ _ us hl => match us, hl with | [_, _], _ => rfl
  have D_lvalue := at_mk (st := s_l_value) (ps := ["_law_hand_here"]) X G a17 l17 c17 k17 fun _ _ _ _ _ _ us hl => match us, hl with | [_], _ => rfl
  have D_linstr := at_mk (st := s_l_instruction) (ps := ["_law_hand_here"]) X G a18 l18 c18 k18 fun _ _ _ _ _ _ us hl => match us, hl with | [_], _ => rfl
  have D_ljoined := at_mk (st := s_l_joined) (ps := ["_law_word", "_law_numbers_here"]) X G a19 l19 c19 k19 fun _ _ _ _ _ _ us hl => match us, hl with | [_, _], _ => rfl
  have D_lline := at_mk (st := s_l_line) (ps := ["_law_row"]) X G a20 l20 c20 k20 fun _ _ _ _ _ _ us hl => match us, hl with | [_], _ => rfl
  have D_lisn := at_mk (st := s_l_is_number) (ps := ["_law_word", "_law_most"]) X G a21 l21 c21 k21 fun _ _ _ _ _ _ us hl => match us, hl with | [_, _], _ => rfl
  have D_laren := at_mk (st := s_l_are_numbers) (ps := ["_law_words"]) X G a22 l22 c22 k22 fun _ _ _ _ _ _ us hl => match us, hl with | [_], _ => rfl
  have D_lisv := at_mk (st := s_l_is_value) (ps := ["_law_word"]) X G a23 l23 c23 k23 fun _ _ _ _ _ _ us hl => match us, hl with | [_], _ => rfl
  have D_lrec := at_mk (st := s_l_good_rec) (ps := ["_law_words"]) X G a24 l24 c24 k24 fun _ _ _ _ _ _ us hl => match us, hl with | [_], _ => rfl
  have D_lgood := at_mk (st := s_l_good_line) (ps := ["_law_line_here"]) X G a25 l25 c25 k25 fun _ _ _ _ _ _ us hl => match us, hl with | [_], _ => rfl
  have D_lbad := at_mk (st := s_l_bad_line) (ps := ["_law_text"]) X G a26 l26 c26 k26 fun _ _ _ _ _ _ us hl => match us, hl with | [_], _ => rfl
  have D_lchg := at_mk (st := s_l_changed) (ps := ["_law_hand_here", "_law_text"]) X G a27 l27 c27 k27 fun _ _ _ _ _ _ us hl => match us, hl with | [_, _], _ => rfl
  have D_lreads := at_mk (st := s_l_reads) (ps := ["_law_text"]) X G a28 l28 c28 k28 fun _ _ _ _ _ _ us hl => match us, hl with | [_], _ => rfl
  refine ⟨PySem.W.fnOf "law" "law" (defArgs s_law) (defBody s_law) (defScope s_law) .none kV29 dc29 pm29 an29 cd29 ct29, fun s v => .of_eq rfl, fun base _ _ => ?_⟩
  have t_JumpCode : ClsT K mg "JumpCode" CJumpCode namesJ := ⟨⟨⟨pgJumpCode, hdJumpCode, poJumpCode, saJumpCode⟩, haJumpCode, hnG, htG, hmJumpCode, kit_self⟩, PySem.W.mg_of X G aJumpCode, (all_cons noJumpCode_rows (all_cons noJumpCode_starts (all_cons noJumpCode_returns all_nil)))⟩
  have F_JumpCode_init := fun_mk (st := s_JI) lJumpCode_init cJumpCode_init kJumpCode_init
  have b_JumpCode_init := F_JumpCode_init.binds (ps := ["self", "rows", "starts", "returns"]) fun _ _ _ _ _ _ us hl => match us, hl with | [_, _, _, _], _ => rfl
  have mk_JumpCode : L2.Mk K CJumpCode fJumpCode_init := ⟨mkJumpCode, gJumpCode_init, jJumpCode_init, kcJumpCode⟩
  have F_JumpCode_eq := fun_mk (st := s_JE) lJumpCode_eq cJumpCode_eq kJumpCode_eq
  have b_JumpCode_eq := F_JumpCode_eq.binds (ps := ["self", "other"]) fun _ _ _ _ _ _ us hl => match us, hl with | [_, _], _ => rfl
  have MBadListing : Mk l.prog w K mg base CBadListing "BadListing" ["line"] := mk_of X G aBadListing xBadListing iBadListing oBadListing (ok_BadListing (fun_mk lBadListing cBadListing (clsB_kI oBadListing))) ((fun_mk (st := i_BadListing) lBadListing cBadListing (clsB_kI oBadListing)).binds fun _ _ _ _ _ _ us hl => match us, hl with | [_, _], _ => rfl)
  have teBadListing := exm_own oBadListing sBadListing
  have GG : Glb K w mg := ⟨⟨_, PySem.W.mg_of X G g_GREATEST⟩, ⟨_, PySem.W.mg_of X G g_MOST_FIGURES⟩, ⟨_, PySem.W.mg_of X G g_FIGURES⟩, ⟨_, PySem.W.mg_of X G g_CONSTANTS_jumptext, fun H => .inr ⟨_, _, _, v_CONSTANTS_jumptext, rfl, rfl, (show 3 ≤ sizeLine by decide), .cons ⟨_, rfl⟩ (.cons ⟨_, rfl⟩ (.cons ⟨_, rfl⟩ (.nil)))⟩⟩,
    ⟨cC, esC, nC, PySem.W.mg_of X G aCO, ⟨lCO, kCO, dk_low dCO⟩, fun z n => dk_no dCO n, fun z m => in_yes nCO m⟩, ⟨cS, esS, nS_, PySem.W.mg_of X G aSH, ⟨lSH, kSH, dk_low dSH⟩, fun z n => dk_no dSH n, fun z m => in_yes nSH m⟩,
    ⟨cL, esL, nL, PySem.W.mg_of X G aSL, ⟨lSL, kSL, dk_low dSL⟩, fun z n => dk_no dSL n, shp_ok nSL⟩⟩
  have DR : AtN K mg "_row_of" "row_of_jumptext" s_p_row_of ["words"] := ⟨_, _, fun_mk (st := s_p_row_of) l10 c10 k10, PySem.W.mg_of X G aRJ, (fun_mk (st := s_p_row_of) l10 c10 k10).binds fun _ _ _ _ _ _ us hl => match us, hl with | [_], _ => rfl⟩
  have mJ : MkC l.prog w K mg base 1 "JumpCode" CJumpCode (spIni CJumpCode namesJ) := ⟨_, _, _, ok_JI F_JumpCode_init t_JumpCode, mk_JumpCode, t_JumpCode.mg, b_JumpCode_init⟩
  have c1 := ok_mix (P := l.prog) (w := w) (base := base) T D_mix
  have c2 := ok_draw T c1 D_draw
  have c3 := ok_pick T c2 D_pick
  have c4 := ok_pickS T c2 D_pick
  have p1 := ok_number_of (P := l.prog) (base := base) T GG D_numof
  have p2 := ok_numbers_of T p1 D_numsof
  have p3 := ok_is_number (P := l.prog) (base := base) T GG D_num
  have p4 := ok_is_op (P := l.prog) (base := base) GG D_op
  have p5 := ok_item_of T GG p3 p4 p1 D_item
  have p6 := ok_pairs_of T p2 D_pairs
  have p7 := ok_row_of T GG p2 p6 p5 DR
  have p8 := ok_texts_of (P := l.prog) (w := w) (base := base) T D_texts
  have p9 := ok_words_of T GG p8 D_words
  have pa := ok_jump_text T t_JumpCode p8 p9 D_jtext
  have pb := ok_read_jumps T MBadListing mJ p2 p7 D_read
  have q1 := ok_l_is_number (P := l.prog) (w := w) (base := base) T D_lisn
  have q2 := ok_l_are_numbers q1 D_laren
  have q3 := ok_l_is_value T q1 D_lisv
  have q4 := ok_l_good_rec T q2 D_lrec
  have q5 := ok_l_good_line T q1 q2 q3 q4 D_lgood
  have q6 := ok_l_bad_line T q2 q5 D_lbad
  have q7 := ok_l_joined (P := l.prog) (w := w) (base := base) T D_ljoined
  have q8 := ok_l_number c2 c3 D_lnumber
  have q9 := ok_l_numbers T q8 D_lnumbers
  have qa := ok_l_value c2 q8 D_lvalue
  have qb := ok_l_instruction T c2 c3 q8 q9 qa D_linstr
  have qc := ok_l_line T q7 D_lline
  have qd := ok_l_changed T c2 c4 q8 D_lchg
  have qe := ok_l_reads MBadListing teBadListing pb pa D_lreads
  exact ok_law T ⟨ok_hand T D_hand, c2, qb, q9, mJ, ⟨_, _, _, ok_JE T F_JumpCode_eq t_JumpCode, gJumpCode_eq, jJumpCode_eq, b_JumpCode_eq⟩, t_JumpCode, q7, qc, pb, pa, qd, q6, qe⟩ (fun_mk (st := s_law) l29 c29 k29)
theorem walk {l : PySem.W.OpenLaw} {q : Program} {loose : List Str} {XP : (Str → Option Value) → Heap → Prop} {YP : World → Heap → Prop} {d : DefRec} {K : Params → PySem.W.Frag} (hn : l.most = some 63) (hdf : d.params.defaults = [])
    (hY : ∀ (w : World) (h : Heap), YP w h → (K w.params).In h)
    (F : ∀ (w : World) (mg : Str → Option Value) (fa : Addr) (h : Heap), (K w.params).In h → h.Ns mainGlobals mg → mg d.name = some (.ref fa) →
      ∃ fd : FuncData, (∀ (s : Shared) (u : Value), BindsTo s fd ⟨[u], []⟩ [("_law_script", u)]) ∧ ∀ base : Heap, (K w.params).In base → base.Ns mainGlobals mg → LawAt l.prog w (K w.params) mg base 7 fa fd ["_law_script"] (spLaw (K w.params))) :
    PySem.W.WalkO q loose XP YP l.row.toRowW d [] (fun f vs => PySem.call f vs) :=
  walk_law (n := 63) (k := 7) (x := "_law_script") (sp := fun K => spLaw K) hn (by decide) hdf ⟨rfl, by decide, by decide⟩ hY F fun _ _ a ns hl _ hS => ⟨a, ns, rfl, hS, hl, fun _ => rfl⟩
end K32

open PySem PySem.W PyProof.Rows in
set_option maxRecDepth 100000 in
set_option maxHeartbeats 0 in
theorem PySem.Challenge.cw_goonagain_k32_whole_listings_read_back_o_holds : PySem.Challenge.rw_goonagain_k32_whole_listings_read_back_o.Holds := by
  w_on; o_law; k_head; (case hw => w_witness2)
  k_fill
  refine K32.walk (l := PySem.Challenge.rw_goonagain_k32_whole_listings_read_back_o) rfl rfl (fun w h Y => PySem.W.kIn_of Y) ?F
  case F =>
    intro w mg fa h KX G hmg
    refine' K32.all_mk KX G hmg ?a0 ?l0 ?c0 ?k0 ?a1 ?l1 ?c1 ?k1 ?a2 ?l2 ?c2 ?k2 ?a3 ?l3 ?c3 ?k3 ?a4 ?l4 ?c4 ?k4 ?a5 ?l5 ?c5 ?k5 ?a6 ?l6 ?c6 ?k6 ?a7 ?l7 ?c7 ?k7 ?a8 ?l8 ?c8 ?k8 ?a9 ?l9 ?c9 ?k9 ?a10 ?l10 ?c10 ?k10 ?a11 ?l11 ?c11 ?k11 ?a12 ?l12 ?c12 ?k12 ?a13 ?l13 ?c13 ?k13 ?a14 ?l14 ?c14 ?k14 ?a15 ?l15 ?c15 ?k15 ?a16 ?l16 ?c16 ?k16 ?a17 ?l17 ?c17 ?k17 ?a18 ?l18 ?c18 ?k18 ?a19 ?l19 ?c19 ?k19 ?a20 ?l20 ?c20 ?k20 ?a21 ?l21 ?c21 ?k21 ?a22 ?l22 ?c22 ?k22 ?a23 ?l23 ?c23 ?k23 ?a24 ?l24 ?c24 ?k24 ?a25 ?l25 ?c25 ?k25 ?a26 ?l26 ?c26 ?k26 ?a27 ?l27 ?c27 ?k27 ?a28 ?l28 ?c28 ?k28 ?a29 ?l29 ?c29 ?k29 ?z_abs ?z_enumerate ?z_int ?z_isinstance ?z_len ?z_list ?z_range ?z_str ?z_tuple ?z_zip ?g_MOST_FIGURES ?g_GREATEST ?g_FIGURES ?g_CONSTANTS_jumptext ?v_CONSTANTS_jumptext ?hnG ?htG ?aJumpCode ?pgJumpCode ?hdJumpCode ?poJumpCode ?saJumpCode ?mkJumpCode ?kcJumpCode ?haJumpCode ?hmJumpCode ?noJumpCode_rows ?noJumpCode_starts ?noJumpCode_returns ?gJumpCode_init ?jJumpCode_init ?lJumpCode_init ?cJumpCode_init ?kJumpCode_init ?gJumpCode_eq ?jJumpCode_eq ?lJumpCode_eq ?cJumpCode_eq ?kJumpCode_eq ?aBadListing ?xBadListing ?iBadListing ?lBadListing ?cBadListing ?oBadListing ?sBadListing ?aCO ?lCO ?kCO ?dCO ?nCO ?aSH ?lSH ?kSH ?dSH ?nSH ?aSL ?lSL ?kSL ?dSL ?nSL ?aRJ
    (case a0 => k_is)
    (case l0 => k_is)
    (case c0 => k_is)
    (case k0 => k_is)
    (case a1 => k_is)
    (case l1 => k_is)
    (case c1 => k_is)
    (case k1 => k_is)
    (case a2 => k_is)
    (case l2 => k_is)
    (case c2 => k_is)
    (case k2 => k_is)
    (case a3 => k_is)
    (case l3 => k_is)
    (case c3 => k_is)
    (case k3 => k_is)
    (case a4 => k_is)
    (case l4 => k_is)
    (case c4 => k_is)
    (case k4 => k_is)
    (case a5 => k_is)
    (case l5 => k_is)
    (case c5 => k_is)
    (case k5 => k_is)
    (case a6 => k_is)
    (case l6 => k_is)
    (case c6 => k_is)
    (case k6 => k_is)
    (case a7 => k_is)
    (case l7 => k_is)
    (case c7 => k_is)
    (case k7 => k_is)
    (case a8 => k_is)
    (case l8 => k_is)
    (case c8 => k_is)
    (case k8 => k_is)
    (case a9 => k_is)
    (case l9 => k_is)
    (case c9 => k_is)
    (case k9 => k_is)
    (case a10 => k_is)
    (case l10 => k_is)
    (case c10 => k_is)
    (case k10 => k_is)
    (case a11 => k_is)
    (case l11 => k_is)
    (case c11 => k_is)
    (case k11 => k_is)
    (case a12 => k_is)
    (case l12 => k_is)
    (case c12 => k_is)
    (case k12 => k_is)
    (case a13 => k_is)
    (case l13 => k_is)
    (case c13 => k_is)
    (case k13 => k_is)
    (case a14 => k_is)
    (case l14 => k_is)
    (case c14 => k_is)
    (case k14 => k_is)
    (case a15 => k_is)
    (case l15 => k_is)
    (case c15 => k_is)
    (case k15 => k_is)
    (case a16 => k_is)
    (case l16 => k_is)
    (case c16 => k_is)
    (case k16 => k_is)
    (case a17 => k_is)
    (case l17 => k_is)
    (case c17 => k_is)
    (case k17 => k_is)
    (case a18 => k_is)
    (case l18 => k_is)
    (case c18 => k_is)
    (case k18 => k_is)
    (case a19 => k_is)
    (case l19 => k_is)
    (case c19 => k_is)
    (case k19 => k_is)
    (case a20 => k_is)
    (case l20 => k_is)
    (case c20 => k_is)
    (case k20 => k_is)
    (case a21 => k_is)
    (case l21 => k_is)
    (case c21 => k_is)
    (case k21 => k_is)
    (case a22 => k_is)
    (case l22 => k_is)
    (case c22 => k_is)
    (case k22 => k_is)
    (case a23 => k_is)
    (case l23 => k_is)
    (case c23 => k_is)
    (case k23 => k_is)
    (case a24 => k_is)
    (case l24 => k_is)
    (case c24 => k_is)
    (case k24 => k_is)
    (case a25 => k_is)
    (case l25 => k_is)
    (case c25 => k_is)
    (case k25 => k_is)
    (case a26 => k_is)
    (case l26 => k_is)
    (case c26 => k_is)
    (case k26 => k_is)
    (case a27 => k_is)
    (case l27 => k_is)
    (case c27 => k_is)
    (case k27 => k_is)
    (case a28 => k_is)
    (case l28 => k_is)
    (case c28 => k_is)
    (case k28 => k_is)
    (case a29 => k_is)
    (case l29 => k_is)
    (case c29 => k_is)
    (case k29 => k_is)
    (case z_abs => k_is)
    (case z_enumerate => k_is)
    (case z_int => k_is)
    (case z_isinstance => k_is)
    (case z_len => k_is)
    (case z_list => k_is)
    (case z_range => k_is)
    (case z_str => k_is)
    (case z_tuple => k_is)
    (case z_zip => k_is)
    (case g_MOST_FIGURES => k_is)
    (case g_GREATEST => k_is)
    (case g_FIGURES => k_is)
    (case g_CONSTANTS_jumptext => k_is)
    (case v_CONSTANTS_jumptext => k_is)
    (case hnG => k_is)
    (case htG => k_is)
    (case aJumpCode => k_is)
    (case pgJumpCode => k_is)
    (case hdJumpCode => k_is)
    (case poJumpCode => k_is)
    (case saJumpCode => k_is)
    (case mkJumpCode => k_is)
    (case kcJumpCode => k_is)
    (case haJumpCode => k_is)
    (case hmJumpCode => k_is)
    (case noJumpCode_rows => k_is)
    (case noJumpCode_starts => k_is)
    (case noJumpCode_returns => k_is)
    (case gJumpCode_init => k_is)
    (case jJumpCode_init => k_is)
    (case lJumpCode_init => k_is)
    (case cJumpCode_init => k_is)
    (case kJumpCode_init => k_is)
    (case gJumpCode_eq => k_is)
    (case jJumpCode_eq => k_is)
    (case lJumpCode_eq => k_is)
    (case cJumpCode_eq => k_is)
    (case kJumpCode_eq => k_is)
    (case aBadListing => k_is)
    (case xBadListing => k_is)
    (case iBadListing => k_is)
    (case lBadListing => k_is)
    (case cBadListing => k_is)
    (case oBadListing => first | kernel_rfl | rfl)
    (case sBadListing => k_is)
    (case aCO => k_is)
    (case lCO => k_is)
    (case kCO => exact ⟨⟨_, _, rfl, rfl⟩, ⟨_, _, rfl, rfl⟩, ⟨_, _, rfl, rfl⟩, ⟨_, _, rfl, rfl⟩, ⟨_, _, rfl, rfl⟩, ⟨_, _, rfl, rfl⟩, ⟨_, _, rfl, rfl⟩, ⟨_, _, rfl, rfl⟩, ⟨_, _, rfl, rfl⟩, ⟨_, _, rfl, rfl⟩, ⟨_, _, rfl, rfl⟩, ⟨_, _, rfl, rfl⟩, ⟨_, _, rfl, rfl⟩, ⟨_, _, rfl, rfl⟩, ⟨_, _, rfl, rfl⟩, ⟨_, _, rfl, rfl⟩, ⟨_, _, rfl, rfl⟩, ⟨_, _, rfl, rfl⟩, ⟨_, _, rfl, rfl⟩, ⟨_, _, rfl, rfl⟩, ⟨_, _, rfl, rfl⟩, ⟨_, _, rfl, rfl⟩, ⟨_, _, rfl, rfl⟩, ⟨_, _, rfl, rfl⟩, ⟨_, _, rfl, rfl⟩, ⟨_, _, rfl, rfl⟩, ⟨_, _, rfl, rfl⟩, ⟨_, _, rfl, rfl⟩, ⟨_, _, rfl, rfl⟩, ⟨_, _, rfl, rfl⟩, trivial⟩)
    (case dCO => first | kernel_rfl | rfl)
    (case nCO => first | kernel_rfl | rfl)
    (case aSH => k_is)
    (case lSH => k_is)
    (case kSH => exact ⟨⟨_, _, rfl, rfl⟩, ⟨_, _, rfl, rfl⟩, ⟨_, _, rfl, rfl⟩, ⟨_, _, rfl, rfl⟩, ⟨_, _, rfl, rfl⟩, ⟨_, _, rfl, rfl⟩, ⟨_, _, rfl, rfl⟩, ⟨_, _, rfl, rfl⟩, ⟨_, _, rfl, rfl⟩, ⟨_, _, rfl, rfl⟩, ⟨_, _, rfl, rfl⟩, ⟨_, _, rfl, rfl⟩, ⟨_, _, rfl, rfl⟩, trivial⟩)
    (case dSH => first | kernel_rfl | rfl)
    (case nSH => first | kernel_rfl | rfl)
    (case aSL => k_is)
    (case lSL => k_is)
    (case kSL => exact ⟨⟨_, _, rfl, rfl⟩, ⟨_, _, rfl, rfl⟩, ⟨_, _, rfl, rfl⟩, ⟨_, _, rfl, rfl⟩, ⟨_, _, rfl, rfl⟩, ⟨_, _, rfl, rfl⟩, ⟨_, _, rfl, rfl⟩, ⟨_, _, rfl, rfl⟩, ⟨_, _, rfl, rfl⟩, ⟨_, _, rfl, rfl⟩, ⟨_, _, rfl, rfl⟩, ⟨_, _, rfl, rfl⟩, ⟨_, _, rfl, rfl⟩, ⟨_, _, rfl, rfl⟩, ⟨_, _, rfl, rfl⟩, ⟨_, _, rfl, rfl⟩, ⟨_, _, rfl, rfl⟩, trivial⟩)
    (case dSL => first | kernel_rfl | rfl)
    (case nSL => first | kernel_rfl | rfl)
    (case aRJ => k_is)
