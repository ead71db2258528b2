import PyProof.Rows.All
import Wide.All
import OpenK.AllK
import Wide.FinOn
import HandS.ForMost
import HandS.Codes
import HandS.Wide
import HandS.TupAny
import HandS.Conv
import HandS.RevRange
import HandS.SortInts
import HandS.RaiseMore
import HandS.Style
import HandS.Walk
import HandS.Zip
import HandS.More
import KE.GoesEnum
import KE.GoesMore
import KE.KDictList
import KE.KDictSum
import HandS.IsInst
import HandS.Deep
import HandS.Exc
import HandS.ExcOwn
import HandS.ExcIs
import HandS.ExcField
import HandS.WordsExc
import HandS.TupMul
import PyProof.Rows.SortShellAny
import HandS.ExcInit
import HandS.ExcValue
import PySem.Challenge.RW_goonagain_k13_uses_of_names
set_option Elab.async false
set_option maxRecDepth 100000
set_option maxHeartbeats 4000000
/-! common part: what a call keeps, data, repr, the hand of draws -/
namespace Cm
open PySem L2

/-! ### what is kept but at the lists M -/
structure Kp (M : Addr → Prop) (H H' : Hp) : Prop where
  st : ∀ a o, ¬ M a → H a = some o → H' a = some o
  l1 : ∀ a, M a → ∃ xs, H a = some (.lst xs)
  l2 : ∀ a, M a → ∃ xs, H' a = some (.lst xs)
theorem Kp.trans {M : Addr → Prop} {H H1 H2 : Hp} (a : Kp M H H1) (b : Kp M H1 H2) : Kp M H H2 :=
  ⟨fun x o n e => b.st x o n (a.st x o n e), a.l1, b.l2⟩
theorem Kp.of_same {M : Addr → Prop} {H H' : Hp} (h : ∀ a, M a → ∃ xs, H a = some (.lst xs)) (s : Same H H') : Kp M H H' :=
  ⟨fun x o _ e => s x o e, h, fun a m => let ⟨xs, e⟩ := h a m; ⟨xs, s a _ e⟩⟩
theorem Kp.refl {M : Addr → Prop} {H : Hp} (h : ∀ a, M a → ∃ xs, H a = some (.lst xs)) : Kp M H H := .of_same h (Same.refl H)
theorem same_new {H : Hp} {p : Addr} {o : HO} (h : H p = Option.none) : Same H (upd H p o) := fun b u e => by
  rw [upd_ne (ne_of_none e h)]
  exact e
theorem Kp.new {M : Addr → Prop} {H : Hp} (h : ∀ a, M a → ∃ xs, H a = some (.lst xs)) {p : Addr} {o : HO} (hp : H p = Option.none) : Kp M H (upd H p o) :=
  .of_same h (same_new hp)
theorem Kp.put {M : Addr → Prop} {H : Hp} (h : ∀ a, M a → ∃ xs, H a = some (.lst xs)) {p : Addr} {ys : List V} (hp : M p) : Kp M H (upd H p (.lst ys)) :=
  ⟨fun x o n e => by
    rw [upd_ne (show x ≠ p by rintro rfl; exact n hp)]
    exact e, h, fun a m => by
    by_cases q : a = p
    · subst q
      exact ⟨ys, upd_same⟩
    · rw [upd_ne q]
      exact h a m⟩
theorem Kp.wider {M N : Addr → Prop} {H H' : Hp} (k : Kp M H H') (h : ∀ a, M a → N a) (l : ∀ a, N a → ∃ xs, H a = some (.lst xs)) : Kp N H H' :=
  ⟨fun x o n e => k.st x o (fun m => n (h x m)) e, l, fun a m => by
    by_cases q : M a
    · exact k.l2 a q
    · obtain ⟨xs, e⟩ := l a m
      exact ⟨xs, k.st a _ q e⟩⟩
theorem Kp.tup {M : Addr → Prop} {K : PySem.W.Frag} {H H' : Hp} {a : Addr} {xs : List V} (k : Kp M H H') (h : SqT K H a xs) : SqT K H' a xs := by
  have no : ∀ o, H a = some o → (∀ ys, o ≠ .lst ys) → ¬ M a := fun o e n m => by
    obtain ⟨ys, e2⟩ := k.l1 a m
    rw [e] at e2
    exact n ys (Option.some.inj e2)
  rcases h with (h | ⟨o, h⟩) | h
  · exact .inl (.inl (k.st _ _ (no _ h fun _ z => nomatch z) h))
  · exact .inl (.inr ⟨o, k.st _ _ (no _ h fun _ z => nomatch z) h⟩)
  · exact .inr h
theorem Kp.free {M : Addr → Prop} {H H' : Hp} {p : Addr} (k : Kp M H H') (h : H' p = Option.none) : H p = Option.none := by
  cases e : H p with
  | none => rfl
  | some o =>
    by_cases q : M p
    · obtain ⟨xs, e2⟩ := k.l2 p q
      rw [h] at e2
      cases e2
    · have := k.st p o q e
      rw [h] at this
      cases this
theorem Kp.m_of {M : Addr → Prop} {H H' : Hp} {p : Addr} (k : Kp M H H') (h : H p = Option.none) : ¬ M p := fun m => by
  obtain ⟨xs, e⟩ := k.l1 p m
  rw [h] at e
  cases e

/-! ### data -/
mutual
/-- no list, no dict in it -/
def flatD : PyData → Bool
  | .list _ => false
  | .dict _ => false
  | .tuple xs => flatDs xs
  | _ => true
def flatDs : List PyData → Bool
  | [] => true
  | x :: xs => flatD x && flatDs xs
end
mutual
theorem dp_keep {K : PySem.W.Frag} {H H' : Hp} (k : ∀ a xs, SqT K H a xs → SqT K H' a xs) : ∀ (d : PyData) (v : V), flatD d = true → Dp K H v d → Dp K H' v d
  | .none, _, _, h => by cases h; exact .non
  | .bool _, _, _, h => by cases h; exact .bl _
  | .int _, _, _, h => by cases h; exact .int _
  | .str _, _, _, h => by cases h; exact .str _
  | .list _, _, f, _ => by simp [flatD] at f
  | .dict _, _, f, _ => by simp [flatD] at f
  | .tuple ds, _, f, h => by
    cases h with
    | tup hs ha => exact .tup (k _ _ hs) (dps_keep k ds _ (by simpa [flatD] using f) ha)
theorem dps_keep {K : PySem.W.Frag} {H H' : Hp} (k : ∀ a xs, SqT K H a xs → SqT K H' a xs) : ∀ (ds : List PyData) (vs : List V), flatDs ds = true → DpAll K H vs ds → DpAll K H' vs ds
  | [], _, _, h => by cases h; exact .nil
  | d :: ds, _, f, h => by
    cases h with
    | cons h1 h2 =>
      have f' : flatD d = true ∧ flatDs ds = true := by simpa [flatDs] using f
      exact .cons (dp_keep k d _ f'.1 h1) (dps_keep k ds _ f'.2 h2)
end
mutual
/-- all lists in it are kept as well -/
theorem dp_same {K : PySem.W.Frag} {H H' : Hp} (s : Same H H') : ∀ (d : PyData) (v : V), Dp K H v d → Dp K H' v d
  | .none, _, h => by cases h; exact .non
  | .bool _, _, h => by cases h; exact .bl _
  | .int _, _, h => by cases h; exact .int _
  | .str _, _, h => by cases h; exact .str _
  | .dict _, _, h => by cases h
  | .list ds, _, h => by
    cases h with
    | lst hs ha => exact .lst (s.seq hs) (dps_same s ds _ ha)
  | .tuple ds, _, h => by
    cases h with
    | tup hs ha =>
      refine .tup ?_ (dps_same s ds _ ha)
      rcases hs with (h | ⟨o, h⟩) | h
      · exact .inl (.inl (s _ _ h))
      · exact .inl (.inr ⟨o, s _ _ h⟩)
      · exact .inr h
theorem dps_same {K : PySem.W.Frag} {H H' : Hp} (s : Same H H') : ∀ (ds : List PyData) (vs : List V), DpAll K H vs ds → DpAll K H' vs ds
  | [], _, h => by cases h; exact .nil
  | d :: ds, _, h => by
    cases h with
    | cons h1 h2 => exact .cons (dp_same s d _ h1) (dps_same s ds _ h2)
end
theorem DpAll.len {K : PySem.W.Frag} {H : Hp} : ∀ {vs : List V} {ds : List PyData}, DpAll K H vs ds → vs.length = ds.length
  | _, _, .nil => rfl
  | _, _, .cons _ h => congrArg (· + 1) (DpAll.len h)
theorem DpAll.at {K : PySem.W.Frag} {H : Hp} : ∀ {vs : List V} {ds : List PyData} {i : Nat} {d : PyData}, DpAll K H vs ds → ds[i]? = some d → ∃ v, vs[i]? = some v ∧ Dp K H v d
  | _, _, 0, d, .cons h _, e => by
    simp at e
    subst e
    exact ⟨_, rfl, h⟩
  | _, _, i + 1, d, .cons _ h, e => by
    obtain ⟨v, h1, h2⟩ := DpAll.at (i := i) (d := d) h (by simpa using e)
    exact ⟨v, by simpa using h1, h2⟩
theorem DpAll.atV {K : PySem.W.Frag} {H : Hp} : ∀ {vs : List V} {ds : List PyData} {i : Nat} {v : V}, DpAll K H vs ds → vs[i]? = some v → ∃ d, ds[i]? = some d ∧ Dp K H v d
  | _, _, 0, d, .cons h _, e => by
    simp at e
    subst e
    exact ⟨_, rfl, h⟩
  | _, _, i + 1, d, .cons _ h, e => by
    obtain ⟨v, h1, h2⟩ := DpAll.atV (i := i) (v := d) h (by simpa using e)
    exact ⟨v, by simpa using h1, h2⟩
theorem DpAll.snoc {K : PySem.W.Frag} {H : Hp} {v : V} {d : PyData} (h : Dp K H v d) : ∀ {vs : List V} {ds : List PyData}, DpAll K H vs ds → DpAll K H (vs ++ [v]) (ds ++ [d])
  | _, _, .nil => .cons h .nil
  | _, _, .cons a b => .cons a (DpAll.snoc h b)
theorem DpAll.app {K : PySem.W.Frag} {H : Hp} : ∀ {vs ws : List V} {ds es : List PyData}, DpAll K H vs ds → DpAll K H ws es → DpAll K H (vs ++ ws) (ds ++ es)
  | _, _, _, _, .nil, h => h
  | _, _, _, _, .cons a b, h => .cons a (DpAll.app b h)
theorem DpAll.take {K : PySem.W.Frag} {H : Hp} (n : Nat) : ∀ {vs : List V} {ds : List PyData}, DpAll K H vs ds → DpAll K H (vs.take n) (ds.take n) := by
  induction n with
  | zero => intro vs ds _; exact .nil
  | succ n ih =>
    intro vs ds h
    cases h with
    | nil => exact .nil
    | cons a b => exact .cons a (ih b)
theorem DpAll.drop {K : PySem.W.Frag} {H : Hp} (n : Nat) : ∀ {vs : List V} {ds : List PyData}, DpAll K H vs ds → DpAll K H (vs.drop n) (ds.drop n) := by
  induction n with
  | zero => intro vs ds h; exact h
  | succ n ih =>
    intro vs ds h
    cases h with
    | nil => exact .nil
    | cons a b => exact ih b
theorem DpAll.rev {K : PySem.W.Frag} {H : Hp} : ∀ {vs : List V} {ds : List PyData}, DpAll K H vs ds → DpAll K H vs.reverse ds.reverse
  | _, _, .nil => .nil
  | _, _, .cons a b => by
    rw [List.reverse_cons, List.reverse_cons]
    exact DpAll.snoc a (DpAll.rev b)
theorem dpAll_ints {K : PySem.W.Frag} {H : Hp} : ∀ ns : List Int, DpAll K H (ns.map V.int) (ns.map PyData.int)
  | [] => .nil
  | n :: ns => .cons (.int n) (dpAll_ints ns)

/-! ### repr of data -/
/-- what repr sees at a value: data of lists and tuples, or a dict of int keys whose values are data without lists -/
def Rp (K : PySem.W.Frag) (H : Hp) (x : V) (d : PyData) : Prop :=
  Dp K H x d ∨ ∃ (a : Addr) (kvs : List (Key × V)) (es : List (Int × PyData)), x = .ref a ∧ H a = some (.dK kvs) ∧ kvs.map (·.1) = es.map (fun e => Sum.inl e.1) ∧
    DpAll K H (kvs.map (·.2)) (es.map (·.2)) ∧ flatDs (es.map (·.2)) = true ∧ d = .dict (es.map fun e => (.int e.1, e.2))
mutual
/-- short leaves -/
def okD : PyData → Bool
  | .int i => decide (i.natAbs < 10 ^ 12)
  | .str x => PyData.leavesShort 13 (.str x)
  | .list xs => okDs xs
  | .tuple xs => okDs xs
  | .dict kvs => okDk kvs
  | _ => true
def okDs : List PyData → Bool
  | [] => true
  | x :: xs => okD x && okDs xs
def okDk : List (PyData × PyData) → Bool
  | [] => true
  | (k, v) :: r => okD k && okD v && okDk r
end
mutual
theorem okD_show : ∀ d : PyData, okD d = true → d.showable = true ∧ d.leavesShort 13 = true
  | .none, _ => by constructor <;> first | rfl | decide +kernel | simp [PyData.showable, PyData.leavesShort]
  | .bool b, _ => by cases b <;> constructor <;> first | rfl | decide +kernel
  | .int i, h => by
    have h' : i.natAbs < 10 ^ 12 := by simpa [okD] using h
    refine ⟨?_, ?_⟩
    · have : i.natAbs.log2 < 1920 := by
        by_cases z : i.natAbs = 0
        · rw [z]; decide
        · refine Nat.lt_of_lt_of_le ((Nat.log2_lt z).mpr (show i.natAbs < 2 ^ 64 from Nat.lt_of_lt_of_le h' (by decide))) (by decide)
      simpa [PyData.showable] using this
    · have := PyData.shown_int_le h'
      simpa [PyData.leavesShort] using this
  | .str x, h => by
    exact ⟨by simp [PyData.showable], by simpa only [okD] using h⟩
  | .list xs, h => by
    have := okDs_show xs (by simpa [okD] using h)
    exact ⟨by simpa [PyData.showable] using this.1, by simpa [PyData.leavesShort] using this.2⟩
  | .tuple xs, h => by
    have := okDs_show xs (by simpa [okD] using h)
    exact ⟨by simpa [PyData.showable] using this.1, by simpa [PyData.leavesShort] using this.2⟩
  | .dict kvs, h => by
    have := okDk_show kvs (by simpa [okD] using h)
    exact ⟨by simpa [PyData.showable] using this.1, by simpa [PyData.leavesShort] using this.2⟩
theorem okDs_show : ∀ xs : List PyData, okDs xs = true → PyData.showableAll xs = true ∧ PyData.leavesShortAll 13 xs = true
  | [], _ => ⟨by simp [PyData.showableAll], by simp [PyData.leavesShortAll]⟩
  | x :: xs, h => by
    have h' : okD x = true ∧ okDs xs = true := by simpa [okDs] using h
    have a := okD_show x h'.1
    have b := okDs_show xs h'.2
    exact ⟨by simp [PyData.showableAll, a.1, b.1], by simp [PyData.leavesShortAll, a.2, b.2]⟩
theorem okDk_show : ∀ xs : List (PyData × PyData), okDk xs = true → PyData.showableKv xs = true ∧ PyData.leavesShortKv 13 xs = true
  | [], _ => ⟨by simp [PyData.showableKv], by simp [PyData.leavesShortKv]⟩
  | (k, v) :: xs, h => by
    have h' : (okD k = true ∧ okD v = true) ∧ okDk xs = true := by simpa [okDk] using h
    have a := okD_show k h'.1.1
    have b := okD_show v h'.1.2
    have c := okDk_show xs h'.2
    exact ⟨by simp [PyData.showableKv, a.1, b.1, c.1], by simp [PyData.leavesShortKv, a.2, b.2, c.2]⟩
end
mutual
theorem no_as {h : Heap} : ∀ (d : PyData) (u : Value) (as : List Addr), flatD d = true → Reads h u d as → as = []
  | .none, _, _, _, r => by cases r; rfl
  | .bool _, _, _, _, r => by cases r; rfl
  | .int _, _, _, _, r => by cases r; rfl
  | .str _, _, _, _, r => by cases r; rfl
  | .list _, _, _, f, _ => by simp [flatD] at f
  | .dict _, _, _, f, _ => by simp [flatD] at f
  | .tuple ds, _, _, f, r => by
    cases r with
    | tuple _ _ _ ha => exact no_ass ds _ _ (by simpa [flatD] using f) ha
theorem no_ass {h : Heap} : ∀ (ds : List PyData) (us : List Value) (as : List Addr), flatDs ds = true → ReadsAll h us ds as → as = []
  | [], _, _, _, r => by cases r; rfl
  | d :: ds, _, _, f, r => by
    have f' : flatD d = true ∧ flatDs ds = true := by simpa [flatDs] using f
    cases r with
    | cons r1 r2 => rw [no_as d _ _ f'.1 r1, no_ass ds _ _ f'.2 r2]; rfl
end
mutual
theorem dp_nodict {K : PySem.W.Frag} {H : Hp} : ∀ (d : PyData) (v : V), Dp K H v d → d.hasDict = false
  | .none, _, _ => by simp [PyData.hasDict]
  | .bool _, _, _ => by simp [PyData.hasDict]
  | .int _, _, _ => by simp [PyData.hasDict]
  | .str _, _, _ => by simp [PyData.hasDict]
  | .dict _, _, h => by cases h
  | .list ds, _, h => by
    cases h with
    | lst _ ha => simpa [PyData.hasDict] using dps_nodict ds _ ha
  | .tuple ds, _, h => by
    cases h with
    | tup _ ha => simpa [PyData.hasDict] using dps_nodict ds _ ha
theorem dps_nodict {K : PySem.W.Frag} {H : Hp} : ∀ (ds : List PyData) (vs : List V), DpAll K H vs ds → PyData.hasDictAll ds = false
  | [], _, _ => by simp [PyData.hasDictAll]
  | d :: ds, _, h => by
    cases h with
    | cons h1 h2 => simp [PyData.hasDictAll, dp_nodict d _ h1, dps_nodict ds _ h2]
end
theorem flatDs_ints : ∀ ks : List Int, flatDs (ks.map PyData.int) = true
  | [] => rfl
  | k :: ks => by simp [flatDs, flatD, flatDs_ints ks]
section
variable {X : Cx}
theorem dict_keys {prog : Program} {w : World} {h : Heap} : ∀ (es : List (Int × PyData)) (kvs : List (Key × V)) (l : List DictEntry) (vs : List (Key × Value)), kvs.map (·.1) = es.map (fun e => Sum.inl e.1) → KV kvs vs → Pairs (mixKind prog w) l vs →
    ReadsAll h (l.map (·.key)) (es.map fun e => PyData.int e.1) [] ∧ Vals (kvs.map (·.2)) (l.map (·.val))
  | [], kvs, l, vs, hk, r, p => by
    cases kvs with
    | cons a b => simp at hk
    | nil =>
      cases r
      cases p
      exact ⟨.nil, .nil⟩
  | e :: es, kvs, l, vs, hk, r, p => by
    cases kvs with
    | nil => simp at hk
    | cons a b =>
      simp only [List.map_cons, List.cons.injEq] at hk
      cases r with
      | @cons _ v _ vs' r1 r2 =>
        cases p with
        | @cons en _ l' _ p1 p2 p3 =>
          obtain ⟨q1, q2⟩ := dict_keys es b l' vs' hk.2 r2 p3
          have p1' : keyIs v.1 en.key = true := p1
          rw [← r1.1, hk.1] at p1'
          obtain ⟨t, et⟩ := Value.isInt_shape (k := e.1) (v := en.key) p1'
          refine ⟨?_, .cons ?_ q2⟩
          · rw [List.map_cons, List.map_cons, et]
            exact ReadsAll.cons (as := []) (bs := []) (Reads.int _ _) q1
          · show RelV a.2 en.val
            rw [p2]
            exact r1.2
def rRepr (K : PySem.W.Frag) : List V → Hp → VK → Prop := fun xs H Q => ∃ x d, xs = [x] ∧ Rp K H x d ∧ okD d = true ∧ d.depth ≤ 60 ∧ d.weight ≤ 2 ^ 20 ∧ Q (.str d.shown) H
theorem call_reprD (hg : X.A.guards = some []) (hu : X.A.units + 64 < cLine) : CallR X (.builtin "repr") (rRepr X.K) := by
  intro pins s σ H xs us Q I r h
  obtain ⟨x, d, rfl, hd, ok, hdep, hw, q⟩ := h
  obtain ⟨u, rfl, rx⟩ := vals1 r
  obtain ⟨hsh, hls⟩ := okD_show d ok
  have hsz : d.shown.length ≤ sizeLine := PyData.shown_fits (by decide) (by decide) hls hw
  have fin : ∀ (a : Addr) (as : List Addr), u = .ref a → Reads s.heap u d as → (d.hasDict = true → sysModules ∉ as) → wpAny (model X.prog X.w) X.A (call (.builtin "repr") [u]) (EP X pins σ Q) X.xe s := fun a as e rd no => by
    subst e
    exact repr_of_reads' rd hsh no hg (by omega) (fun _ _ e => e) (fun h' u tk k => ⟨.str _, H, I.kept k, ⟨_, rfl⟩, q⟩) hsz
  rcases hd with hd | ⟨a, kvs, es, rfl, ha, hk, hv, hf, rfl⟩
  · obtain ⟨as, rd⟩ := Dp.reads I d x u hd rx
    cases hd with
    | non => cases rx; exact P.repr_of_none ⟨.str _, H, I.tok _, ⟨_, rfl⟩, q⟩
    | bl b => cases rx; exact P.repr_of_bool ⟨.str _, H, I.tok _, ⟨_, rfl⟩, by cases b <;> exact q⟩
    | int i =>
      obtain ⟨t, rfl⟩ := rx
      exact P.repr_of_int (by simpa [PyData.showable] using hsh) ⟨.str _, H, I.tok _, ⟨_, rfl⟩, by simpa [PyData.shown] using q⟩
    | str z =>
      obtain ⟨t, rfl⟩ := rx
      exact P.repr_of_str ⟨.str _, H, I.tok _, ⟨_, rfl⟩, by simpa [PyData.shown] using q⟩ (by simpa [PyData.shown] using hsz)
    | lst hs ha =>
      have nd := dp_nodict _ _ (Dp.lst hs ha)
      cases rx
      exact fin _ as rfl rd fun z => by rw [nd] at z; cases z
    | tup hs ha =>
      have nd := dp_nodict _ _ (Dp.tup hs ha)
      cases rx
      exact fin _ as rfl rd fun z => by rw [nd] at z; cases z
  · cases rx
    obtain ⟨_, hsys, vs, rv, ob, dl, ep, e1, e2, e3, _, e5, _⟩ := (show kvs.length ≤ sizeLine ∧ (a == sysModules) = false ∧ ∃ vs, KV kvs vs ∧ s.heap.DictOf (mixKind X.prog X.w) a vs from dk_of I.hok ha)
    obtain ⟨q1, q2⟩ := dict_keys es kvs dl.toList vs hk rv e5
    obtain ⟨bs, q3⟩ := Dp.readsAll I _ _ _ hv q2
    obtain rfl := no_ass _ _ _ hf q3
    have rd : Reads s.heap (.ref a) (.dict (es.map fun e => (PyData.int e.1, e.2))) (a :: [] ++ []) :=
      .dict e1 e2.1 e3 (by rw [List.map_map]; exact q1) (by rw [List.map_map]; exact q3)
    exact fin a _ rfl rd fun _ m => by
      have : sysModules = a := by simpa using m
      rw [← this] at hsys
      simp at hsys
end
end Cm

/-! a law's call whose body may ask repr: nothing is under repr there -/
namespace Cm
open PySem L2 PySem.Spec PyProof.Rows
section
variable {P : Program} {w : World} {K : PySem.W.Frag} {mg : Str → Option Value} {base : Heap}
/-- the promise of the law's def, where no repr is under way -/
def LawAt (P : Program) (w : World) (K : PySem.W.Frag) (mg : Str → Option Value) (base : Heap) (k : Nat) (f : Addr) (fd : FuncData) (ps : List Str) (sp : Sp) : Prop :=
  ∀ (A : Around) (outer : List Env) (s : Shared) (H : Hp) (args : Args) (us : List Value) (vs : List V) (Q : VK) (E : XK),
    A.guards = some [] → Room k A → Env0 P w K mg base A outer s H → BindsTo s fd args (ps.zip us) → Vals vs us → sp vs H Q E →
      codeAny (model P w) A (.call (.ref f) args) (CR CX0 outer P w H s Q E) s
theorem lawAt_of {x : Str} {st : Stmt} {f : Addr} {fd : FuncData} {N ps : List Str} {k : Nat} {sp : Sp} (F : Fun K x x st f fd) (S : FnScope N ps (defScope st))
    (len : ∀ vs H Q E, sp vs H Q E → vs.length = ps.length)
    (hb : ∀ (cdv : Value) (A : Around) (outer : List Env) (s : Shared) (H : Hp) (vs : List V) (Q : VK) (E : XK), A.guards = some [] →
      Room k (A.deeper (envOfC x (defScope st) s.heap.objs.size f cdv)) → sp vs H Q E →
      ∃ t, PSs (cxOf CX0 P w K mg base N x (defScope st) f cdv A outer s H E).nox (defBody st) t ∧ t { nx := fun _ H' => Q .non H', rt := Q } (start N vs) H) :
    LawAt P w K mg base (k + 1) f fd ps sp := by
  intro A outer s H args us vs Q E hg hr e0 hbind rv hs
  obtain ⟨oc, od, kV, doc, pm, an, cdv, ct, osl, rfl, lk, hcd⟩ := F.ex
  have keeps : ∀ b o, base.get? b = some o → s.heap.get? b = some o := fun b o e => (e0.bs b o e).1
  have KX : K.In s.heap := e0.mod.kin.keeps keeps
  refine codeAny_call_function hr.depth (KX _ _ lk) rfl S.co S.gen rfl (PySem.W.codeRec_of KX hcd) (hbind _ _ _ _ ?_)
  refine wpAny_newFunctionEnv_cells S.kind (fun z hz => ?_) fun env he s1 xc => ?_
  · rcases S.par z.1 (List.of_mem_zip (show (z.1, z.2) ∈ ps.zip us from hz)).1 with q | q
    · exact Or.inl q
    · exact Or.inr ⟨q, PySem.W.cellsFrom_some _ _ _ (Or.inl q)⟩
  · subst he
    refine ⟨(e0.mod.nolimit.keeps keeps).keeps xc.toInCall.keep, codeAny_func ?_⟩
    obtain ⟨t, ht, hq⟩ := hb cdv A outer s H vs Q E hg (hr.deeper _) hs
    have I := inv_start (E := E) (CX := CX0) S hr.hd e0 (len _ _ _ _ hs) rv xc
    refine wpAny_mono (ht.nox.run [] s1 (start N vs) H _ I hq) (fun fl s' hz => ?_) fun e s' hz => hz
    cases fl with
    | ret u =>
      obtain ⟨v, _, H', J, r, q⟩ := hz
      exact ⟨v, H', J.os, J.bare, J.base, J.hok, r, q⟩
    | next =>
      obtain ⟨_, H', J, q⟩ := hz
      exact ⟨V.non, H', J.os, J.bare, J.base, J.hok, rfl, q⟩
    | brk =>
      obtain ⟨_, _, _, q⟩ := hz
      exact q.elim
    | cont =>
      obtain ⟨_, _, _, q⟩ := hz
      exact q.elim
end
/-- the script tracked at a: known to the object, or one of the module's own -/
def scriptH (a : Addr) (o : Obj) (ns : List Int) : Hp := fun b => if b = a then some (.frz o (.lst (ns.map V.int))) else Option.none
theorem law_goes {P : Program} {w : World} {K : PySem.W.Frag} {mg mb : Str → Option Value} {k : Nat} {fa a : Addr} {fd : FuncData} {x : Str} {sp : Sp} {s₁ : Shared} {vs : List Value} {ns : List Int}
    (KX : K.In s₁.heap) (hns : s₁.heap.Ns mainGlobals mg) (hb : s₁.heap.Ns builtinsNs mb)
    (hbb : ∀ x : Str, x ≠ "__name__" → mb x = bootBuiltins x) (hlim : s₁.heap.NoLimit) (hg : s₁.gens = #[])
    (ha : s₁.heap.get? a = some { cls := .type "list", data := .seq vs.toArray }) (hi : IntsAre vs ns) (hl : ns.length ≤ sizeLine) (hr : Room k callerA)
    (F : ∀ b : Heap, K.In b → b.Ns mainGlobals mg → LawAt P w K mg b k fa fd [x] sp)
    (hbind : ∀ (s : Shared) (u : Value), BindsTo s fd ⟨[u], []⟩ [(x, u)])
    (hsp : ∀ H : Hp, Only H → SqL K H a (ns.map V.int) → sp [.ref a] H (fun v _ => v = .bl true) fun _ _ _ => False) :
    codeAny (model P w) callerA (.call (.ref fa) ⟨[.ref a], []⟩)
      (fun r s' => r = .ok (.ret (.bool true)) ∧ OldK s₁.heap s'.heap ∧ s'.os = s₁.os ∧ AllBare s'.gens) s₁ := by
  have rv := vals_ints hi
  have main : ∀ H : Hp, Only H → SqL K H a (ns.map V.int) → HOk P w H s₁.heap → (∀ b, H b ≠ Option.none → b = a ∧ K.lookup a = Option.none) →
      codeAny (model P w) callerA (.call (.ref fa) ⟨[.ref a], []⟩)
        (fun r s' => r = .ok (.ret (.bool true)) ∧ OldK s₁.heap s'.heap ∧ s'.os = s₁.os ∧ AllBare s'.gens) s₁ := by
    intro H hO hS hok hA
    have free_ns : ∀ {b : Addr} {o : Obj} {es : Array DictEntry} {ep : Nat}, s₁.heap.get? b = some o → o.data = .dict es ep → H b = Option.none := fun {b o es ep} e d => by
      by_cases q : H b = Option.none
      · exact q
      · obtain ⟨rfl, _⟩ := hA b q
        rw [ha] at e
        cases e
        cases d
    have ns_of : ∀ {b : Addr} {m : Str → Option Value}, s₁.heap.Ns b m → (hidT s₁.heap H).Ns b m := fun h => by
      obtain ⟨o, es, ep, e, d, r⟩ := h
      exact ⟨o, es, ep, hidT_get e (free_ns e d), d, r⟩
    have kin : K.In (hidT s₁.heap H) := fun b o e => hidT_get (KX b o e) (by
      by_cases q : H b = Option.none
      · exact q
      · obtain ⟨rfl, q2⟩ := hA b q
        rw [q2] at e
        cases e)
    obtain ⟨mc, l1, l2⟩ := hlim
    have e0 : Env0 P w K mg (hidT s₁.heap H) callerA [] s₁ H :=
      { frames := rfl, mod := ⟨kin, ns_of hns, ⟨mb, ns_of hb, hbb⟩, ⟨mc, ns_of l1, l2⟩⟩, bs := fun b o e => of_hidT e, bsz := Nat.le_of_eq (hidT_size _ _),
        funs := trivial, frf := fun b z => absurd (show b ∈ ([] : List Addr) from z) (by simp), hok := hok, bare := .of_eq hg }
    have run := F _ kin (ns_of hns) callerA [] s₁ H ⟨[.ref a], []⟩ [.ref a] [.ref a] _ _ rfl hr e0 (hbind s₁ (.ref a)) (.cons rfl .nil) (hsp H hO hS)
    refine codeAny_mono run fun r s' h => ?_
    rcases r with e | fl
    · exact False.elim h
    · cases fl with
      | ret u =>
        obtain ⟨v, H', os, bare, un, hok', r', q⟩ := h
        have q' : v = .bl true := q
        subst q'
        have eu : u = Value.bool true := r'
        subst eu
        refine ⟨rfl, OldK.of_keep fun b o e => ?_, os, bare⟩
        by_cases q : H b = Option.none
        · exact un.keep b o e q (fun z => absurd (show b ∈ ([] : List Addr) from z) (by simp)) (by simp)
        · rcases hO b with z | ⟨ob, xs, z⟩
          · exact absurd z q
          · have e1 := (hok b _ z).1
            have e2 := (hok' b _ (un.frzs b ob _ z)).1
            rw [e] at e1
            cases e1
            exact e2
      | next => exact False.elim h
      | brk => exact False.elim h
      | cont => exact False.elim h
  by_cases hk : K.lookup a = Option.none
  · refine main (scriptH a { cls := .type "list", data := .seq vs.toArray } ns) (fun b => ?_) (.inl (.inr ⟨_, if_pos rfl⟩)) (fun b u z => ?_) fun b z => ?_
    · by_cases q : b = a
      · exact .inr ⟨_, _, if_pos q⟩
      · exact .inl (if_neg q)
    · unfold scriptH at z
      by_cases q : b = a
      · rw [if_pos q] at z
        cases z
        subst q
        exact ⟨ha, by rw [List.length_map]; exact hl, vs, _, rv, ha⟩
      · rw [if_neg q] at z
        cases z
    · by_cases q : b = a
      · exact ⟨q, hk⟩
      · exact absurd (if_neg q) z
  · obtain ⟨o, ho⟩ : ∃ o, K.lookup a = some o := by
      cases e : K.lookup a with
      | none => exact absurd e hk
      | some o => exact ⟨o, rfl⟩
    have e := KX a o ho
    rw [ha] at e
    cases e
    refine main (fun _ => Option.none) (fun _ => .inl rfl) ?_ (fun b u z => by cases z) fun b z => absurd rfl z
    exact .inr ⟨_, vs.toArray, _, ho, rfl, rfl, rfl, by rw [List.size_toArray, hi.length]; exact hl, by simpa using rv⟩
theorem walk_law {l : PySem.W.OpenLaw} {n k : Nat} {q : Program} {loose : List Str} {XP : (Str → Option Value) → Heap → Prop} {YP : World → Heap → Prop} {d : DefRec} {K : Params → PySem.W.Frag} {sp : PySem.W.Frag → Sp} {x : Str}
    (hn : l.most = some n) (hn2 : n ≤ sizeLine) (hdf : d.params.defaults = []) (hr : Room k callerA)
    (hY : ∀ (w : World) (h : Heap), YP w h → (K w.params).In h)
    (F : ∀ (w : World) (mg : Str → Option Value) (fa : Addr) (h : Heap), (K w.params).In h → h.Ns mainGlobals mg → mg d.name = some (.ref fa) →
      ∃ fd : FuncData, (∀ (s : Shared) (u : Value), BindsTo s fd ⟨[u], []⟩ [(x, u)]) ∧
        ∀ b : Heap, (K w.params).In b → b.Ns mainGlobals mg → LawAt l.prog w (K w.params) mg b k fa fd [x] (sp (K w.params)))
    (hsp : ∀ (K : PySem.W.Frag) (H : Hp) (a : Addr) (ns : List Int), ns.length ≤ n → Only H → SqL K H a (ns.map V.int) → sp K [.ref a] H (fun v _ => v = .bl true) fun _ _ _ => False) :
    PySem.W.WalkO q loose XP YP l.row.toRowW d [] (fun f vs => PySem.call f vs) := by
  refine Att.attach_call hn hdf fun w s₀ s₁ mg mb fa o pm cd doc a vs ns G Y ho hd hcd hmg hobj hints hlen hg => ?_
  obtain ⟨fd, hb, hF⟩ := F w mg fa _ (hY w _ Y) G.T.g hmg
  exact law_goes (hY w _ Y) G.T.g G.T.b G.T.builtins G.T.nolimit hg hobj hints (Nat.le_trans hlen hn2) hr hF hb fun H hO hS => hsp _ H a ns hlen hO hS
end Cm

/-! defs that are called by name; the hand of draws -/
namespace Cm
open PySem L2 PySem.Spec PyProof.Rows
structure Cl (P : Program) (w : World) (K : PySem.W.Frag) (mg : Str → Option Value) (base : Heap) (k : Nat) (x : Str) (sp : Sp) : Prop where
  ex : ∃ (f : Addr) (fd : FuncData) (ps : List Str), FnOk P w K mg base CX0 k f fd ps sp ∧ mg x = some (.ref f) ∧ PySem.W.keepIn K (.ref f) = true ∧ Binds K fd ps []
/-- where a def of the text stands -/
structure At (K : PySem.W.Frag) (mg : Str → Option Value) (x : Str) (st : Stmt) (ps : List Str) : Prop where
  ex : ∃ (f : Addr) (fd : FuncData), Fun K x x st f fd ∧ mg x = some (.ref f) ∧ Binds K fd ps []
section
variable {P : Program} {w : World} {K : PySem.W.Frag} {mg : Str → Option Value} {base : Heap}
theorem cl_of {x : Str} {st : Stmt} {N ps : List Str} {k : Nat} {sp : Sp} (T : At K mg x st ps) (S : FnScope N ps (defScope st))
    (len : ∀ vs H Q E, sp vs H Q E → vs.length = ps.length)
    (hb : ∀ (f : Addr) (cdv : Value) (A : Around) (outer : List Env) (s : Shared) (H : Hp) (vs : List V) (Q : VK) (E : XK),
      Room k (A.deeper (envOfC x (defScope st) s.heap.objs.size f cdv)) → sp vs H Q E →
      ∃ t, PSs (cxOf CX0 P w K mg base N x (defScope st) f cdv A outer s H E).nox (defBody st) t ∧ t { nx := fun _ H' => Q .non H', rt := Q } (start N vs) H) :
    Cl P w K mg base (k + 1) x sp := by
  obtain ⟨f, fd, F, hm, b⟩ := T.ex
  exact ⟨f, fd, ps, F.ok S len (hb f), hm, F.kp, b⟩
end
section
variable {X : Cx} {j k : Nat} {x : Str} {sp : Sp} {e : Expr} {es : List Expr} {t : TA} {p pos : Pos}
theorem pe_c (c : Cl X.prog X.w X.K X.mg X.base k x sp) (hr : Room j X.A) (hk : k ≤ j) (hg : Gl X x) (ha : PA X (e :: es) t)
    (hdb : (x == ("__debug__" : Str)) = false := by decide) (he : starEach (e :: es) X.env = (false, eval e X.env) :: starEach es X.env := by rfl)
    (hpl : (backTo pos (starEach es X.env)).any (·.1) = false := by rfl) : PE X (.Call (.Name x p) (e :: es) [] pos) (tCall sp [] E0 t) := by
  obtain ⟨f, fd, ps, F, hm, kp, b⟩ := c.ex
  exact pe_call F (hr.mono hk) hg hm kp b .nil pass0 ha hdb he hpl
end

theorem map_at {α β : Type} {f : α → β} {xs : List α} {i : Nat} {y : β} (h : (xs.map f)[i]? = some y) : ∃ x, xs[i]? = some x ∧ y = f x := by
  rw [List.getElem?_map] at h
  obtain ⟨x, a, b⟩ := Option.map_eq_some_iff.mp h
  exact ⟨x, a, b.symm⟩

/-! ### a word between a statement and what follows it -/
def tMid (t u : TS) : TS := fun D σ H => ∃ M : L2.St → Hp → Prop, t { D with nx := M } σ H ∧ ∀ σ' H', M σ' H' → u D σ' H'
theorem pss_mid {X : Cx} {st : Stmt} {rest : List Stmt} {t u : TS} (h1 : PS X st t) (h2 : PSs X rest u) : PSs X (st :: rest) (tMid t u) :=
  ⟨fun pins s σ H D I h => by
    obtain ⟨M, hm, hu⟩ := h
    refine wpAny_execs_cons (thn (h1.run pins s σ H { D with nx := M } I hm) fun fl s1 q => ?_)
    cases fl with
    | next =>
      obtain ⟨σ', H', I', q⟩ := q
      exact h2.run pins s1 σ' H' D I' (hu σ' H' q)
    | ret v => exact q
    | brk => exact q
    | cont => exact q⟩

/-! ### the hand of draws -/
/-- a hand stands at h: the cells, how many were taken, a great cell that is drawn from, a sum -/
def Hand (H : Hp) (h c : Addr) : Prop := ∃ (cells : List Int) (i b t : Int), H h = some (.lst [.ref c, .int i, .int b, .int t]) ∧ H c = some (.lst (cells.map V.int)) ∧ c ≠ h ∧ 0 ≤ i ∧ cells.length ≤ 63
theorem Hand.lst {H : Hp} {h c : Addr} (x : Hand H h c) : ∃ xs, H h = some (.lst xs) := let ⟨_, _, _, _, e, _⟩ := x; ⟨_, e⟩
theorem Hand.same {H H' : Hp} {h c : Addr} (x : Hand H h c) (s : Same H H') : Hand H' h c := by
  obtain ⟨cells, i, b, t, e1, e2, n, z⟩ := x
  exact ⟨cells, i, b, t, s _ _ e1, s _ _ e2, n, z⟩
/-- the hand alone is changed -/
abbrev Kh (h : Addr) : Hp → Hp → Prop := Kp (fun a => a = h)
theorem Hand.kh {H H' : Hp} {h c : Addr} (x : Hand H h c) (s : Same H H') : Kh h H H' := .of_same (fun a m => by subst m; exact x.lst) s
theorem Hand.kr {H : Hp} {h c : Addr} (x : Hand H h c) : Kh h H H := x.kh (Same.refl H)

def spMix : Sp := fun vs H Q _ => ∃ a b : Int, vs = [.int a, .int b] ∧ ∀ n : Int, Q (.int n) H
def spHand (K : PySem.W.Frag) : Sp := fun vs H Q _ => ∃ (a : Addr) (ns : List Int), vs = [.ref a] ∧ SqL K H a (ns.map V.int) ∧ ns.length ≤ 63 ∧ ∀ h c H', Same H H' → H h = Option.none → H c = Option.none → Hand H' h c → Q (.ref h) H'
def spDraw : Sp := fun vs H Q _ => ∃ (h c : Addr) (m : Int), vs = [.ref h, .int m] ∧ Hand H h c ∧ 0 < m ∧ m < 2 ^ 100 ∧ ∀ (n : Int) (H' : Hp), 0 ≤ n → n < m → Kh h H H' → Hand H' h c → Q (.int n) H'
/-- pick out of a list or tuple -/
def spPick (K : PySem.W.Frag) : Sp := fun vs H Q _ => ∃ (h c a : Addr) (xs : List V), vs = [.ref h, .ref a] ∧ Hand H h c ∧ (SqL K H a xs ∧ a ≠ h ∨ SqT K H a xs) ∧ xs ≠ [] ∧ xs.length ≤ 1000 ∧
  ∀ (v : V) (H' : Hp), v ∈ xs → Kh h H H' → Hand H' h c → Q v H'
end Cm

/-! further rules: a tuple read backwards, enumerate over a tuple, sorted(d.keys()) -/
namespace Cm
open PySem L2 PySem.Spec PyProof.Rows
section
variable {prog : Program} {w : World} {A : Around} {E : Value → Shared → Prop} {s : Shared}
theorem adjust_back (n : Nat) : Builtin.Slice.sliceAdjust none none (-1) (n : Int) = ((n : Int) - 1, -1) := by
  unfold Builtin.Slice.sliceAdjust
  simp
theorem places_back (n : Nat) : Builtin.Slice.slicePlaces ((n : Int) - 1) (-1) (-1) = n := by
  unfold Builtin.Slice.slicePlaces
  simp
  try omega
theorem applied_back {sl : Addr} {vs : Value} {n : Nat} {Q : Int × Int × Nat → Shared → Prop} (hs : s.heap.IsSliceOf sl .none .none vs) (ps : IsPart vs (some (-1)))
    (h : Q ((n : Int) - 1, -1, n) s) : wpAny (model prog w) A (Builtin.Slice.sliceApplied (.ref sl) (pure (n : Int))) Q E s := by
  obtain ⟨os, hos, hcs, hds⟩ := id hs
  unfold Builtin.Slice.sliceApplied Builtin.Slice.sliceFields
  refine wpAny_bind (wpAny_bind (wpAny_field hos hds (x := .none) rfl (wpAny_bind (wpAny_field hos hds (x := .none) rfl (wpAny_bind (wpAny_field hos hds (x := vs) rfl (wpAny_pure ?_)))))))
  refine wpAny_bind (HT.slicePart_ ps ?_)
  show wpAny _ _ (if ((-1 : Int) == 0) = true then _ else _) _ _ s
  rw [if_neg (by decide)]
  refine wpAny_bind (slicePart_none (wpAny_bind (slicePart_none (wpAny_bind (wpAny_pure ?_)))))
  show wpAny _ _ (match Builtin.Slice.sliceAdjust none none (-1) (n : Int) with | (lo, hi) => pure (lo, (-1 : Int), Builtin.Slice.slicePlaces lo hi (-1))) _ _ s
  rw [adjust_back]
  show wpAny _ _ (pure ((n : Int) - 1, (-1 : Int), Builtin.Slice.slicePlaces ((n : Int) - 1) (-1) (-1))) _ _ s
  rw [places_back]
  exact wpAny_pure h
theorem filterMap_eqs {α β : Type} {f g : α → Option β} : ∀ l : List α, (∀ x ∈ l, f x = g x) → l.filterMap f = l.filterMap g
  | [], _ => rfl
  | x :: l, h => by
    rw [List.filterMap_cons, List.filterMap_cons, h x List.mem_cons_self, filterMap_eqs l fun y hy => h y (List.mem_cons_of_mem _ hy)]
theorem pick_all (m : List Value) : (List.range m.length).filterMap (fun k => m[k]?) = m := by
  induction m with
  | nil => rfl
  | cons a m ih =>
    rw [List.length_cons, List.range_succ_eq_map, List.filterMap_cons]
    simp only [List.getElem?_cons_zero, List.filterMap_map]
    refine congrArg _ (Eq.trans (filterMap_eqs _ fun k _ => ?_) ih)
    simp
theorem pick_back (xs : Array Value) : ((List.range xs.size).filterMap fun (k : Nat) => xs[((xs.size : Int) - 1 + (k : Int) * -1).toNat]?).toArray = xs.toList.reverse.toArray := by
  have h1 : (List.range xs.size).filterMap (fun (k : Nat) => xs[((xs.size : Int) - 1 + (k : Int) * -1).toNat]?) = (List.range xs.size).filterMap (fun k => xs.toList.reverse[k]?) := by
    refine filterMap_eqs _ fun k hk => ?_
    have hk' : k < xs.size := List.mem_range.mp hk
    have e2 : ((xs.size : Int) - 1 + (k : Int) * -1).toNat = xs.size - 1 - k := by omega
    rw [e2, List.getElem?_reverse (by simpa using hk'), Array.getElem?_toList]
    simp
  have h3 := pick_all xs.toList.reverse
  rw [List.length_reverse, Array.length_toList] at h3
  rw [h1, h3]
theorem getItem_tuple_back {t sl : Addr} {items : Array Value} {vs : Value} {Q : Value → Shared → Prop} (ht : IsTup s.heap t items) (hs : s.heap.IsSliceOf sl .none .none vs) (ps : IsPart vs (some (-1)))
    (h : Q (.ref s.heap.objs.size) { s with heap := s.heap.push { cls := .type "tuple", data := .seq items.toList.reverse.toArray } })
    (hsz : items.size ≤ sizeLine) : wpAny (model prog w) A (getItem (.ref t) (.ref sl)) Q E s := by
  have hok : sizeOk (.seq items.toList.reverse.toArray) := by
    show items.toList.reverse.toArray.size ≤ sizeLine
    rw [List.size_toArray, List.length_reverse, Array.length_toList]
    exact hsz
  obtain ⟨os, hos, hcs, hds⟩ := id hs
  have hTs : s.TypeIs (.ref sl) "slice" := ⟨os, hos, hcs⟩
  unfold getItem
  try with_reducible refine wpAny_holding ?_
  first | refine wpAny_bind (wpAny_pure ?_) | skip
  refine wpAny_bind (wpAny_sequenceKey ht.typeIs (by decide) ?_)
  refine wpAny_bind (wpAny_callSpecial?_slot (name := Str.ofString "__getitem__") ht.typeIs slot_tuple_getitem (wpAny_call_entry slot_tuple_getitem ht.typeIs PyProof.Rows.entry_tuple_getitem ?_ (PyProof.Rows.args_tuple_getitem _ _)))
  show wpAny _ _ (Builtin.Tuple.tupleItemsOf (.ref t) >>= _) _ _ s
  refine wpAny_bind (tupleItemsOf_ ht (wpAny_bind (wpAny_typeOf hTs ?_)))
  rw [if_pos (by decide)]
  refine wpAny_bind (applied_back (n := items.size) hs ps ?_)
  show wpAny _ _ (if ((((items.size : Int) - 1) == 0 && (-1 : Int) == 1 && items.size == items.size) = true) then _ else _) _ _ s
  rw [if_neg (by simp), pick_back]
  first
    | exact wpAny_bind (m := Builtin.Tuple.tupleExact _) (wpAny_newObj_type (wpAny_pure ⟨_, rfl, wpAny_pure h⟩) hok)
    | exact wpAny_bind (m := Builtin.Tuple.tupleExact _) (wpAny_newObj_type (wpAny_bind (wpAny_pure (wpAny_pure ⟨_, rfl, wpAny_pure h⟩))) hok)
end
section
variable {X : Cx}
def tRevT (K : PySem.W.Frag) (te : TE) : TE := fun σ H Q => te σ H fun x H1 => ∃ a xs, x = .ref a ∧ SqT K H1 a xs ∧ ∀ p, H1 p = Option.none → Q (.ref p) (upd H1 p (.tup xs.reverse))
theorem pe_revT {e : Expr} {te : TE} {k : Nat} {p1 p2 p3 pos : Pos} (he : PE X e te) : PE X (.Subscript e (.Slice none none (some (.UnaryOp .USub (.Constant (.int 1) k p1) p2)) p3) pos) (tRevT X.K te) := by
  refine ⟨fun pins s σ H Q I h => ?_⟩
  refine Subscript_ (thn (he.run pins s σ H _ I h) fun v s1 hz => ?_)
  obtain ⟨x, H1, I1, r1, a, xs, ex, hx, q⟩ := hz
  subst ex
  cases r1
  have hst : PO X (some (.UnaryOp .USub (.Constant (.int 1) k p1) p2)) (tPart (tUn (rU fun i => .int (-i)) (tC (.int 1)))) := po_some (pe_un un_neg pe_int)
  refine wpAny_Slice (thn (po_none.run pins s1 σ H1 (fun o H2 => o = none ∧ H2 = H1) I1 ⟨rfl, rfl⟩) fun vl s2 hz => ?_)
  obtain ⟨l, H2, I2, pl, el, e2⟩ := hz
  subst el e2
  refine thn (po_none.run pins s2 σ H2 (fun o H3 => o = none ∧ H3 = H2) I2 ⟨rfl, rfl⟩) fun vu s3 hz => ?_
  obtain ⟨u, H3, I3, pu, eu, e3⟩ := hz
  subst eu e3
  refine thn (hst.run pins s3 σ H3 (fun o H4 => o = some (-1) ∧ H4 = H3) I3 ⟨1, rfl, -1, rfl, rfl, rfl⟩) fun vs s4 hz => ?_
  obtain ⟨o, H4, I4, ps, eo, e4⟩ := hz
  subst eo e4
  cases pl
  cases pu
  have I5 : Inv X pins σ H4 { s4 with heap := s4.heap.push { cls := .type "slice", data := .fields #[.none, .none, vs] } } := I4.kept (t' := s4.toks) fun b ob q => Heap.get?_push_of_some _ q
  obtain ⟨its, r, ht, hz⟩ := I5.tuple hx
  have hlen := r.length
  show wpAny (model X.prog X.w) X.A (subscriptTail e (.Slice none none (some (.UnaryOp .USub (.Constant (.int 1) k p1) p2)) p3) (.ref a) (.ref s4.heap.objs.size)) (EP X pins σ Q) X.xe
    { s4 with heap := s4.heap.push { cls := .type "slice", data := .fields #[.none, .none, vs] } }
  refine tail_any (ops := [.ref a, .ref s4.heap.objs.size]) ht.typeIs slot_tuple_getitem.lookup ?_ (by with_unfolding_all rfl)
  refine getItem_tuple_back ht (Heap.IsSliceOf.new _ .none .none vs) ps ?_ (by rw [List.size_toArray]; omega)
  refine ⟨.ref _, _, I5.laid (t' := s4.toks) (o := .tup xs.reverse) (fun b ob q => Heap.get?_push_of_some _ q) (Nat.le_refl _) ?_, rfl, q _ (I5.hok.fresh (Nat.le_refl _))⟩
  exact ⟨by rw [List.length_reverse]; exact hz, its.reverse, r.reverse, IsTup.new _ _⟩
end

/-! ### enumerate over a tuple -/
theorem enum_new1 {v : Value} {o : Obj} {G : Heap → Prop} (B : Begins v o G) :
    Meets (Builtin.«enumerate.__new__» ⟨[.type "enumerate", v], []⟩) (fun _ R s => G s.heap ∧
      R (.ok (.ret (.ref (s.heap.push o).objs.size))) { s with heap := (s.heap.push o).push { cls := .type "enumerate", data := .fields #[.none, .bool false, .ref s.heap.objs.size, rawInt 0, .none, .none] } }) :=
  .of_wp fun prog w A R s h => by
    obtain ⟨hp, g, d, tk, os⟩ := s
    obtain ⟨h1, h2⟩ := h
    have hsub := sub_enumerate
    have it : ∀ {A' : Around} {E : Value → Shared → Prop} {Q : Value → Shared → Prop}, Q (.ref hp.objs.size) ⟨hp.push o, g, d, tk, os⟩ → wpAny (model prog w) A' (pyIter v) Q E ⟨hp, g, d, tk, os⟩ :=
      fun q => B.iter prog w _ _ ⟨hp, g, d, tk, os⟩ _ h1 q
    wp_walk using it
    refine wpAny_stack_any fun st => wpAny_pure ?_
    split
    · rename_i c _ _ _ _ _
      cases (c == Value.type "enumerate") <;> (wp_walk using it; exact ⟨_, rfl, h2⟩)
    · wp_walk using it
      exact ⟨_, rfl, h2⟩
section
variable {prog : Program} {w : World} {A : Around} {E : Value → Shared → Prop} {s : Shared}
theorem call_enum1 {v : Value} {o : Obj} {G : Heap → Prop} {Q : Value → Shared → Prop} (B : Begins v o G) (h1 : G s.heap)
    (h : ∀ h', IsEnum h' (s.heap.objs.size + 1) s.heap.objs.size 0 .none → h'.get? s.heap.objs.size = some o → h'.objs.size = s.heap.objs.size + 2 →
      (∀ b o, s.heap.get? b = some o → h'.get? b = some o) → Q (.ref (s.heap.objs.size + 1)) { s with heap := h' }) :
    wpAny (model prog w) A (call (.type "enumerate") [v]) Q E s := by
  refine callType_new F.called_enumerate (by decide) (F.typeCall_enumerate_1 _) (F.newCall_enumerate_1 _) (fun obj => F.args_object_init_2 obj _) F.entry_enumerate_new (enum_new1 B) ⟨h1, ?_⟩
  have hz : (s.heap.push o).objs.size = s.heap.objs.size + 1 := Heap.size_push ..
  rw [hz]
  have he : IsEnum ((s.heap.push o).push { cls := .type "enumerate", data := .fields #[.none, .bool false, .ref s.heap.objs.size, rawInt 0, .none, .none] }) (s.heap.objs.size + 1) s.heap.objs.size 0 .none := by
    have e := Heap.get?_push_size (s.heap.push o) (o := { cls := .type "enumerate", data := .fields #[.none, .bool false, .ref s.heap.objs.size, rawInt 0, .none, .none] }) rfl
    rw [hz] at e
    exact e
  exact ⟨⟨_, he, rfl⟩, h _ he (Heap.get?_push_of_some _ (Heap.get?_push_size _ B.free)) (by rw [Heap.size_push, hz]) fun b o x => Heap.get?_push_of_some _ (Heap.get?_push_of_some _ x)⟩
end
/-- the tuple at a, each item in a new pair with its number -/
def IteT (K : PySem.W.Frag) (a : Addr) : It :=
  ⟨fun i H => ∃ (xs : List V) (x : V), SqT K H a xs ∧ xs[i]? = some x, fun i H v H' => ∃ T x, v = .ref T ∧ H T = Option.none ∧ H' = upd H T (.tup [.int (i : Nat), x]) ∧ ∀ xs, SqT K H a xs → xs[i]? = some x,
    fun i H => ∃ xs : List V, SqT K H a xs ∧ xs.length ≤ i⟩
theorem turn_enumT {P : Program} {w : World} {K : PySem.W.Frag} {elts : List Expr} {kk : Nat} {tpos : Pos} (a e it : Addr) :
    Turn P w K (.Tuple elts kk tpos) (IteT K a) [e, it] e (fun i h => (∃ old, IsEnum h e it ((i : Nat) : Int) old) ∧ h.IsTupleIter it a i ∧ e ≠ it ∧ a ≠ it ∧ a ≠ e) where
  mem := by simp
  obj := fun i h st b hb => by
    obtain ⟨⟨old, he⟩, ⟨o, ho, hc, hd⟩, _⟩ := st
    rcases (show b = e ∨ b = it by simpa using hb) with z | z
    · rw [z]; exact ⟨_, he, fun v q => nomatch q⟩
    · rw [z]; exact ⟨o, ho, fun v q => by rw [hd] at q; cases q⟩
  keep := fun i h h' st k => let ⟨⟨old, he⟩, hi, hne⟩ := st; ⟨⟨old, k e (by simp) _ he⟩, hi.at fun o q => k it (by simp) o q, hne⟩
  item := by
    intro X hP hw hK hc i pins s σ H E I hf st hg
    subst hP hw hK
    obtain ⟨⟨old, he⟩, hit, hne, hai, hae⟩ := st
    obtain ⟨xs, x, hq, hx⟩ := hg
    obtain ⟨its, rv, p, hz⟩ := I.tuple hq
    obtain ⟨u, hu, ru⟩ := rv.get hx
    have hel : e < s.heap.objs.size := Heap.lt_size he
    have hil : it < s.heap.objs.size := by obtain ⟨_, q, _⟩ := hit; exact Heap.lt_size q
    have hlt : i < its.toArray.size := by
      rw [List.size_toArray]
      exact (List.getElem?_eq_some_iff.mp hu).1
    refine wpAny_pyNext_enum_itemD (Draws.tuple (prog := X.prog) (w := X.w) (A := X.A.in1) (I.ok.hd hc) it a hai its.toArray) he ⟨hit, p⟩ hlt hne (by simp [hne, Ne.symm hae]) fun y h' tk hy ho hst hT hsz hk => ?_
    have ey : y = u := by
      have q : its[i]? = some y := by simpa using hy
      rw [hu] at q
      exact (Option.some.inj q).symm
    subst ey
    refine ⟨_, rfl, wpAny_letOwnedTupleGo_enum (s := { s with heap := h', toks := tk + 1 }) ho fun h'' he' sb => ?_⟩
    have hT2 : h''.get? s.heap.objs.size = some { cls := .type "tuple", data := .seq #[.int i tk, y] } := (sb.2 _ (Nat.ne_of_gt hel)).trans hT
    have new : ObjOk X.prog X.w (upd H s.heap.objs.size (.tup [.int (i : Nat), x])) h'' s.heap.objs.size (.tup [.int (i : Nat), x]) :=
      ⟨by show 2 ≤ sizeLine; decide, [.int i tk, y], .cons ⟨_, rfl⟩ (.cons ru .nil), ⟨_, hT2, rfl, _, rfl⟩⟩
    have I1 : Inv X pins σ (upd H s.heap.objs.size (.tup [.int (i : Nat), x])) { s with heap := h'', toks := tk + 1 } :=
      I.turnedNew (ch := [e, it]) (fun b ob hb q => (sb.2 b (fun z => hb (by simp [z]))).trans (hk b ob (fun z => hb (by simp [z])) (fun z => hb (by simp [z])) q)) hf (Nat.le_refl _) new
    refine ⟨.ref s.heap.objs.size, _, I1, rfl, ⟨_, x, rfl, I.hok.fresh (Nat.le_refl _), rfl, fun ys hy => by rw [I.tuple_inj hy hq]; exact hx⟩, ⟨⟨y, ?_⟩, hst.1.at fun o q => (sb.2 it (Ne.symm hne)).trans q, hne, hai, hae⟩, fun b hb => ?_⟩
    · have e1 : ((i + 1 : Nat) : Int) = (i : Int) + 1 := by omega
      rw [e1]; exact he'
    · have hb' : b < s.heap.objs.size := by
        rcases (show b = e ∨ b = it by simpa using hb) with z | z
        · rw [z]; exact hel
        · rw [z]; exact hil
      rw [upd_ne (Nat.ne_of_lt hb')]
      exact (hf b hb).1
  done := by
    intro X hP hw hK hc i pins s σ H E I hf st hg
    subst hP hw hK
    obtain ⟨⟨old, he⟩, hit, hne, hai, hae⟩ := st
    obtain ⟨xs, hq, hx⟩ := hg
    obtain ⟨its, rv, p, hz⟩ := I.tuple hq
    obtain ⟨f0, f1, f2, f3, f4, f5⟩ := hf it (by simp)
    have hl := rv.length
    have D : Draws X.prog X.w X.A.in1 it [it, a] i (fun _ _ => False) (fun j h => j = i ∧ h.IsTupleIter it a i ∧ h.IsTuple a its.toArray) :=
      { live := fun _ _ st => let ⟨o, ho, _⟩ := st.2.1; ⟨o, ho⟩
        frame := fun _ _ _ st hk => ⟨st.1, st.2.1.at fun o e => hk it (by simp) o e, st.2.2.at fun o e => hk a (by simp) o e⟩
        item := fun j s Q E hj st => absurd hj (by rw [st.1]; exact Nat.lt_irrefl _)
        done := fun s Q E st hE => wpAny_nextOf_tuple_end (I.ok.hd hc) st.2.1 st.2.2 (by simp; omega) hE }
    exact wpAny_pyNext_enum_endD D he ⟨rfl, hit, p⟩ fun h' eb => ⟨rfl, I.turned (t' := s.toks) (fun b o hb q => eb b o hb q) f0 f1 f3 f4 f5⟩
  self := fun A i s Q E st h => let ⟨⟨_, he⟩, _⟩ := st; wpAny_pyIter_enum he h
def iEnumT (K : PySem.W.Frag) (ta : TA) : TI := fun σ H R => ta σ H fun vs H1 => ∃ a xs, vs = [.ref a] ∧ SqT K H1 a xs ∧ R (IteT K a) H1
theorem pi_enumT {X : Cx} {e : Expr} {ta : TA} {p pos tpos : Pos} {elts : List Expr} {kk : Nat} (hg : Gl X "enumerate") (hm : X.mg "enumerate" = none) (ha : PA X [e] ta) (hs : starEach [e] X.env = [(false, eval e X.env)] := by rfl) :
    PI X (.Tuple elts kk tpos) (.Call (.Name "enumerate" p) [e] [] pos) (iEnumT X.K ta) := by
  refine ⟨fun pins s σ H R I h => ?_⟩
  refine Call_ (ld_blt I hg hm boot_enumerate (PyProof.Rows.callWith_type1 (thn (ha.run pos pins s σ H _ I h) fun us s1 hz => ?_) hs rfl))
  obtain ⟨vs, H1, I1, r1, a, xs, ex, hq, q⟩ := hz
  subst ex
  cases r1 with
  | cons r rr =>
    cases rr
    cases r
    obtain ⟨its, rv, p', hz⟩ := I1.tuple hq
    refine call_enum1 (begins_tuple a its.toArray) p' fun h' he hit hsz hk => wpAny_pyIter_enum he ?_
    have hal : a < s1.heap.objs.size := p'.lt
    refine ⟨s1.heap.objs.size + 1, [s1.heap.objs.size + 1, s1.heap.objs.size], _, _, H1, rfl, I1.kept (t' := s1.toks) hk, turn_enumT a (s1.heap.objs.size + 1) s1.heap.objs.size,
      ⟨⟨.none, he⟩, ⟨_, hit, rfl, rfl⟩, Nat.succ_ne_self _, Nat.ne_of_lt hal, Nat.ne_of_lt (Nat.lt_succ_of_lt hal)⟩, fun b hb => ?_, q⟩
    have hle : s1.heap.objs.size ≤ b := by
      rcases (show b = s1.heap.objs.size + 1 ∨ b = s1.heap.objs.size by simpa using hb) with z | z
      · rw [z]; exact Nat.le_add_right _ _
      · rw [z]; exact Nat.le_refl _
    exact I1.fpOk hle (I1.hok.fresh hle)
theorem walk_enumT {K : PySem.W.Frag} {a : Addr} {xs : List V} : Walk (IteT K a) xs.length (fun H => SqT K H a xs) (YPair (fun i => some (.int (i : Nat))) (fun i => xs[i]?)) := by
  refine ⟨fun i _ hi q => ⟨xs, xs[i], q, by simp [hi]⟩, fun _ q => ⟨xs, q, Nat.le_refl _⟩, fun i H v H' _ q y => ?_⟩
  obtain ⟨T, x, h1, h2, h3, h4⟩ := y
  exact ⟨T, .int (i : Nat), x, h1, h2, h3, rfl, h4 xs q⟩
theorem walk_zipT {K : PySem.W.Frag} {a b : Addr} {xs ys : List V} {n : Nat} (hn : n = min xs.length ys.length) : Walk (RZ.ItzT K a b) n (fun H => SqT K H a xs ∧ SqT K H b ys) (YPair (fun i => xs[i]?) (fun i => ys[i]?)) := by
  subst hn
  refine ⟨fun i _ hi q => ?_, fun _ q => ⟨xs, ys, q.1, q.2, by omega⟩, fun i H v H' _ q y => ?_⟩
  · have h1 : i < xs.length := by omega
    have h2 : i < ys.length := by omega
    exact ⟨xs, ys, xs[i], ys[i], q.1, q.2, by simp [h1], by simp [h2]⟩
  · obtain ⟨T, x, z, h1, h2, h3, h4, h5⟩ := y
    exact ⟨T, x, z, h1, h2, h3, h4 xs q.1, h5 ys q.2⟩

/-! ### sorted(d.keys()) of a dict of int keys -/
section
variable {X : Cx}
/-- the view r of the keys of the dict at d -/
def ViewO (r d : Addr) : HO := .ext fun h => PySem.W.KdlKeysView h r d
def tKeys (td : TE) : TE := fun σ H Q => td σ H fun x H1 => ∃ d, x = .ref d ∧ (∃ kvs, H1 d = some (.dK kvs)) ∧ ∀ r, H1 r = Option.none → Q (.ref r) (upd H1 r (ViewO r d))
theorem pe_keys {e : Expr} {td : TE} {apos cpos : Pos} (he : PE X e td) (hbase : attributeBase e "keys" X.env (eval e X.env) = eval e X.env := by rfl) (hline : (apos.endLine == cpos.line) = true := by rfl) :
    PE X (.Call (.Attribute e "keys" apos) [] [] cpos) (tKeys td) := by
  refine ⟨fun pins s σ H Q I h => ?_⟩
  refine wpAny_Call_method (T := "dict") (id := "dict.keys") hbase rfl hline F.plainAttrs_dict F.slot_dict_keys F.type_dict_keys (thn (he.run pins s σ H _ I h) fun u s1 hz => ?_)
  obtain ⟨x, H1, I1, rx, d, ex, ⟨kvs, hd⟩, q⟩ := hz
  subst ex
  obtain rfl : u = Value.ref d := rx
  obtain ⟨z, lo, vs, rel, dd⟩ := dk_of I1.hok hd
  refine ⟨dd.typeIs, dd.mapOf.noDict, ?_⟩
  show wpAny _ _ (callWith cpos (.builtin "dict.keys") [.ref d] [] []) _ X.xe s1
  have fin : EP X pins σ Q (.ref s1.heap.objs.size) { s1 with heap := s1.heap.push { cls := .type "dict_keys", data := .fields #[.ref d] } } := by
    refine ⟨.ref s1.heap.objs.size, upd H1 s1.heap.objs.size (ViewO s1.heap.objs.size d), I1.laid (t' := s1.toks) (fun b u e => Heap.get?_push_of_some _ e) (Nat.le_refl _) ?_, rfl, q _ (I1.hok.fresh (Nat.le_refl _))⟩
    refine ⟨⟨_, Heap.get?_push_size _ rfl, rfl, rfl⟩, ⟨_, Heap.get?_push_size _ rfl⟩, fun h1 h2 a b => ?_⟩
    obtain ⟨o, ho, c⟩ := a
    exact ⟨o, b o ho, c⟩
  exact method_meetsIn F.slot_dict_keys F.entry_dict_keys rfl (PySem.evalArgs_none ⟨rfl, dd.typeIs, F.args_dict_keys_1 _, _, PySem.W.kdl_meets_keys (mixKind X.prog X.w) d lo, ⟨vs, dd⟩, fin⟩)
theorem call_sortedK (hcalm : X.calm = true) : CallR X (.builtin "sorted") (fun xs H Q => ∃ (r d : Addr) (kvs : List (Key × V)) (ks : List Int), xs = [.ref r] ∧ H r = some (ViewO r d) ∧ H d = some (.dK kvs) ∧ kvs.map (·.1) = ks.map Sum.inl ∧ ks.length < 64 ∧
    ∀ (ys : List Int) (p : Addr), ys.Perm ks → ys.Pairwise (· ≤ ·) → H p = Option.none → Q (.ref p) (upd H p (.lst (ys.map V.int)))) := by
  intro pins s σ H xs us Q I rr q
  obtain ⟨r, d, kvs, ks, ex, hr, hd, hks, h64, q⟩ := q
  subst ex
  obtain ⟨u, eu, rx⟩ := vals1 rr
  subst eu
  cases rx
  have hv : PySem.W.KdlKeysView s.heap r d := (I.hok r _ hr).1
  obtain ⟨z, lo, vs, rel, dd⟩ := dk_of I.hok hd
  obtain ⟨ep, hat⟩ := dd.dictAt
  have hkeys : vs.map (·.1) = ks.map Sum.inl := rel.keys.symm.trans hks
  have hl : vs.length = ks.length := by simpa using congrArg List.length hkeys
  have h16 : vs.length ≤ sizeLine := by rw [hl, sizeLine_eq]; omega
  refine Calls.call_function_entry PyProof.Rows.kind_sorted PyProof.Rows.plain_sorted PyProof.Rows.entry_sorted (PyProof.Rows.args_sorted1 _) ?_
  unfold Builtin.«sorted»
  refine wpAny_bind (m := checkCount "sorted" 1 1 _) (wpAny_pure ?_)
  refine wpAny_bind (PySem.W.kdu_collect (A := X.A.in1) (PySem.W.kdl_keys (knd := mixKind X.prog X.w) (r := r) (d := d) (kvs := vs) (ep := ep)) (I.ok.hd hcalm) ⟨hv, hat⟩ h16 fun h' tk acc hk hacc => ?_)
  have hal : acc.toList.length = ks.length := by rw [Array.length_toList, hacc.1, hl]
  have hS : IntsAre acc.toList ks := ints_each hal fun j v e => by
    obtain ⟨k, x, e1, e2⟩ := hacc.2 j v (by rw [← Array.getElem?_toList]; exact e)
    have e3 : (vs.map (·.1))[j]? = some k := by rw [List.getElem?_map, e1]; rfl
    rw [hkeys, List.getElem?_map] at e3
    obtain ⟨y, ey, e4⟩ := Option.map_eq_some_iff.mp e3
    subst e4
    rcases keyIs_shape (show keyIs (Sum.inl y) v = true from e2) with ⟨i, t, ek, ev⟩ | ⟨_, t, ek, ev⟩
    · cases ek
      exact ⟨y, t, ey, ev⟩
    · cases ek
  have I1 : Inv X pins σ H { s with heap := h', toks := tk } := I.kept hk
  refine wpAny_bind (wpAny_newList ?_ (by rw [hal, sizeLine_eq]; omega))
  have hoL : (h'.push (seqObj "list" acc.toList.toArray 0)).get? h'.objs.size = some (seqObj "list" acc.toList.toArray 0) := Heap.get?_push_size _ rfl
  show wpAny _ _ _ _ _ { s with heap := h'.push (seqObj "list" acc.toList.toArray 0), toks := tk }
  refine wpAny_bind (wpAny_holding (wpAny_call_entry PyProof.Rows.slot_list_sort ⟨_, hoL, rfl⟩ PyProof.Rows.entry_list_sort
    (PyProof.Rows.list_sort_tree (s := { s with heap := h'.push (seqObj "list" acc.toList.toArray 0), toks := tk }) hoL hS (by rw [hal]; exact h64) fun out ys g1 g2 g3 => ⟨_, rfl, ?_⟩) (PyProof.Rows.args_list_sort _)))
  obtain ⟨e', he'⟩ := PyProof.Rows.sortedHeap_at (vs := acc.toList) (out := out) hoL
  have hlen : (ys.map V.int).length ≤ sizeLine := by
    rw [List.length_map, g2.length_eq]
    exact Nat.le_trans (Nat.le_of_lt h64) (by decide)
  refine wpAny_pure ⟨_, rfl, .ref h'.objs.size, upd H h'.objs.size (.lst (ys.map V.int)), I1.laid (t' := tk) (fun b u e => ?_) (Nat.le_refl _)
    (show ObjOk X.prog X.w _ _ _ (.lst (ys.map V.int)) from ⟨hlen, out.toList, e', vals_of_ints g1, by rw [Array.toArray_toList]; exact he'⟩), rfl, q ys _ g2 g3 (I1.hok.fresh (Nat.le_refl _))⟩
  have hb : b < h'.objs.size := Heap.lt_size e
  rw [PyProof.Rows.sortedHeap_old (Nat.ne_of_lt hb) (by rw [size_push']; exact Nat.lt_succ_of_lt hb)]
  exact Heap.get?_push_of_some _ e
end
end Cm

/-! a dict of things by births -/
namespace Cm
open PySem L2
/-- a thing: a word, then data without lists -/
def windD (b : Int) : PyData := .tuple [.str "wind", .int (1000 + b), .int (2000 + b)]
def wordD : PyData → Str
  | .tuple (.str x :: _) => x
  | _ => ""
structure Th (b : Int) (d : PyData) : Prop where
  ex : ∃ (wd : Str) (r : List PyData), d = .tuple (.str wd :: r)
  fl : flatD d = true
  ok : okD d = true
  dp : d.depth ≤ 8
  wt : d.weight ≤ 4000
  wn : wordD d = "wind" → d = windD b
/-- the dict at d holds es -/
structure ThAt (K : PySem.W.Frag) (H : Hp) (d : Addr) (es : List (Int × PyData)) (kvs : List (Key × V)) : Prop where
  at_ : H d = some (.dK kvs)
  ks : kvs.map (·.1) = es.map (fun e => Sum.inl e.1)
  vs : DpAll K H (kvs.map (·.2)) (es.map (·.2))
  th : ∀ e ∈ es, Th e.1 e.2
def thg (es : List (Int × PyData)) (b : Int) : PyData := ((es.find? fun e => decide (e.1 = b)).map (·.2)).getD .none
def word (es : List (Int × PyData)) (b : Int) : Str := wordD (thg es b)
theorem th_find {K : PySem.W.Frag} {H : Hp} (b : Int) : ∀ (es : List (Int × PyData)) (kvs : List (Key × V)), kvs.map (·.1) = es.map (fun e => (Sum.inl e.1 : Key)) → DpAll K H (kvs.map (·.2)) (es.map (·.2)) →
    b ∈ es.map (·.1) → ∃ v, valV kvs (Sum.inl b) = some v ∧ Dp K H v (thg es b) ∧ (b, thg es b) ∈ es
  | [], _, _, _, m => by simp at m
  | e :: es, kvs, hk, hv, m => by
    cases kvs with
    | nil => simp at hk
    | cons a kvs =>
      simp only [List.map_cons, List.cons.injEq] at hk
      cases hv with
      | cons h1 h2 =>
        by_cases q : e.1 = b
        · refine ⟨a.2, ?_, ?_, ?_⟩
          · unfold valV
            rw [List.find?_cons_of_pos (by rw [hk.1, q]; simp)]
            rfl
          · have : thg (e :: es) b = e.2 := by
              unfold thg
              rw [List.find?_cons_of_pos (by simp [q])]
              rfl
            rw [this]
            exact h1
          · have : thg (e :: es) b = e.2 := by
              unfold thg
              rw [List.find?_cons_of_pos (by simp [q])]
              rfl
            rw [this, ← q]
            exact List.mem_cons_self
        · have m' : b ∈ es.map (·.1) := by
            simp only [List.map_cons, List.mem_cons] at m
            rcases m with m | m
            · exact absurd m.symm q
            · exact m
          obtain ⟨v, g1, g2, g3⟩ := th_find b es kvs hk.2 h2 m'
          have e2 : thg (e :: es) b = thg es b := by
            unfold thg
            rw [List.find?_cons_of_neg (by simpa using q)]
          refine ⟨v, ?_, by rw [e2]; exact g2, by rw [e2]; exact List.mem_cons_of_mem _ g3⟩
          unfold valV at g1 ⊢
          rw [List.find?_cons_of_neg (by rw [hk.1]; simpa using q)]
          exact g1
theorem ThAt.get {K : PySem.W.Frag} {H : Hp} {d : Addr} {es : List (Int × PyData)} {kvs : List (Key × V)} (x : ThAt K H d es kvs) {b : Int} (m : b ∈ es.map (·.1)) :
    ∃ (p : Addr) (its : List V), DGet H d (.int b) (some (.ref p)) ∧ SqT K H p its ∧ atI its 0 = some (.str (word es b)) ∧ Dp K H (.ref p) (thg es b) ∧ Th b (thg es b) := by
  obtain ⟨v, h1, h2, h3⟩ := th_find b es kvs x.ks x.vs m
  have t : Th b (thg es b) := x.th _ h3
  obtain ⟨wd, r, ed⟩ := t.ex
  have h2' := h2
  have e3 : word es b = wd := by
    unfold word
    rw [ed]
    rfl
  rw [ed] at h2'
  cases h2' with
  | @tup a its ds hs ha =>
    refine ⟨a, its, ?_, hs, ?_, by rw [ed]; exact .tup hs ha, t⟩
    · have q := DGet.k (k := Sum.inl b) x.at_
      rw [h1] at q
      exact q
    · rw [e3]
      cases ha with
      | cons q1 q2 =>
        cases q1
        exact atI_nat (j := 0) rfl
theorem putK_end {kvs : List (Key × V)} {k : Key} {v : V} (h : ∀ p ∈ kvs, p.1 ≠ k) : putK kvs k v = kvs ++ [(k, v)] := by
  unfold putK
  rw [if_neg]
  intro q
  obtain ⟨p, hp, e⟩ := List.any_eq_true.mp q
  exact h p hp (of_decide_eq_true e)
theorem decS {x y : Str} : decide (V.str x = V.str y) = decide (x = y) := by
  by_cases q : x = y
  · rw [q]; simp
  · rw [decide_eq_false q, decide_eq_false (fun z => q (V.str.inj z))]
theorem ThAt.same {K : PySem.W.Frag} {H H' : Hp} {d : Addr} {es : List (Int × PyData)} {kvs : List (Key × V)} (x : ThAt K H d es kvs) (s : Same H H') : ThAt K H' d es kvs :=
  ⟨s _ _ x.at_, x.ks, dps_same s _ _ x.vs, x.th⟩
theorem flatDs_of : ∀ ds : List PyData, (∀ d ∈ ds, flatD d = true) → flatDs ds = true
  | [], _ => rfl
  | d :: ds, h => by simp [flatDs, h d List.mem_cons_self, flatDs_of ds fun x hx => h x (List.mem_cons_of_mem _ hx)]
theorem ThAt.fl {K : PySem.W.Frag} {H : Hp} {d : Addr} {es : List (Int × PyData)} {kvs : List (Key × V)} (x : ThAt K H d es kvs) : flatDs (es.map (·.2)) = true :=
  flatDs_of _ fun z hz => by
    obtain ⟨e, he, rfl⟩ := List.mem_map.mp hz
    exact (x.th e he).fl
theorem ThAt.kp {M : Addr → Prop} {K : PySem.W.Frag} {H H' : Hp} {d : Addr} {es : List (Int × PyData)} {kvs : List (Key × V)} (x : ThAt K H d es kvs) (k : Kp M H H') (n : ¬ M d) : ThAt K H' d es kvs :=
  ⟨k.st _ _ n x.at_, x.ks, dps_keep (fun _ _ h => k.tup h) _ _ x.fl x.vs, x.th⟩
theorem wt_int {i : Int} (h : i.natAbs < 10 ^ 12) : PyData.weight (.int i) ≤ 64 := by
  simp only [PyData.weight]
  split
  · omega
  · rename_i q
    have q' : i.natAbs ≠ 0 := by
      intro z
      apply q
      simp
      omega
    have := (Nat.log2_lt q').mpr (show i.natAbs < 2 ^ 63 from Nat.lt_of_lt_of_le h (by decide))
    omega
theorem ThAt.snoc {K : PySem.W.Frag} {H : Hp} {d : Addr} {es : List (Int × PyData)} {kvs : List (Key × V)} (x : ThAt K H d es kvs) {b : Int} {v : V} {t : PyData} (n : b ∉ es.map (·.1)) (hv : Dp K H v t) (ht : Th b t) :
    ThAt K (upd H d (.dK (putK kvs (Sum.inl b) v))) d (es ++ [(b, t)]) (putK kvs (Sum.inl b) v) := by
  have e1 : putK kvs (Sum.inl b) v = kvs ++ [(Sum.inl b, v)] := putK_end fun p hp q => n (by
    have : p.1 ∈ kvs.map (·.1) := List.mem_map.mpr ⟨p, hp, rfl⟩
    rw [x.ks] at this
    obtain ⟨e, he, e2⟩ := List.mem_map.mp this
    rw [q] at e2
    exact List.mem_map.mpr ⟨e, he, Sum.inl.inj e2⟩)
  have keep : ∀ a xs, SqT K H a xs → SqT K (upd H d (.dK (putK kvs (Sum.inl b) v))) a xs := fun a xs h => by
    rcases h with (h | ⟨o, h⟩) | h
    · exact .inl (.inl (by rw [upd_ne (ne_of h x.at_ (by intro z; cases z))]; exact h))
    · exact .inl (.inr ⟨o, by rw [upd_ne (ne_of h x.at_ (by intro z; cases z))]; exact h⟩)
    · exact .inr h
  refine ⟨upd_same, ?_, ?_, ?_⟩
  · rw [e1, List.map_append, List.map_append, x.ks]
    rfl
  · have h1 := dps_keep keep _ _ x.fl x.vs
    have h2 := dp_keep keep _ _ ht.fl hv
    rw [show (putK kvs (Sum.inl b) v).map (·.2) = kvs.map (·.2) ++ [v] by rw [e1, List.map_append]; rfl, List.map_append]
    exact DpAll.snoc h2 h1
  · intro e he
    rcases List.mem_append.mp he with he | he
    · exact x.th e he
    · cases List.mem_singleton.mp he
      exact ht
theorem Kp.mut {M : Addr → Prop} {H H' : Hp} {d : Addr} {o : HO} (k : Kp M H H') (hd : H d = Option.none) : Kp M H (upd H' d o) :=
  ⟨fun a u n e => by
    rw [upd_ne (ne_of_none e hd)]
    exact k.st a u n e, k.l1, fun a m => by
    have q : a ≠ d := fun q => k.m_of hd (q ▸ m)
    rw [upd_ne q]
    exact k.l2 a m⟩
theorem Hand.put {H : Hp} {h c d : Addr} {o : HO} (x : Hand H h c) (n : ∀ xs, H d ≠ some (.lst xs)) : Hand (upd H d o) h c := by
  obtain ⟨cells, i, b, t, e1, e2, q⟩ := x
  refine ⟨cells, i, b, t, ?_, ?_, q⟩
  · rw [upd_ne (fun z => n _ (z ▸ e1))]
    exact e1
  · rw [upd_ne (fun z => n _ (z ▸ e2))]
    exact e2
theorem Hand.puts {H : Hp} {h c d : Addr} {o : HO} (x : Hand H h c) (n1 : d ≠ h) (n2 : d ≠ c) : Hand (upd H d o) h c := by
  obtain ⟨cells, i, b, t, e1, e2, q⟩ := x
  exact ⟨cells, i, b, t, by rw [upd_ne (Ne.symm n1)]; exact e1, by rw [upd_ne (Ne.symm n2)]; exact e2, q⟩
theorem Hand.there {H : Hp} {h c d : Addr} (x : Hand H h c) (n : H d = Option.none) : d ≠ h ∧ d ≠ c := by
  obtain ⟨cells, i, b, t, e1, e2, q⟩ := x
  exact ⟨(ne_of_none e1 n).symm, (ne_of_none e2 n).symm⟩
theorem Hand.ne {H : Hp} {h c d : Addr} (x : Hand H h c) (n : ∀ xs, H d ≠ some (.lst xs)) : d ≠ h := fun z => by
  obtain ⟨xs, e⟩ := x.lst
  exact n xs (z ▸ e)
/-- 1 .. n -/
def births (n : Nat) : List Int := (List.range n).map fun (i : Nat) => (i : Int) + 1
theorem births_succ (n : Nat) : births (n + 1) = births n ++ [(n : Int) + 1] := by
  unfold births
  rw [List.range_succ, List.map_append]
  rfl
theorem births_mem {n : Nat} {b : Int} : b ∈ births n ↔ 1 ≤ b ∧ b ≤ n := by
  unfold births
  rw [List.mem_map]
  constructor
  · rintro ⟨i, hi, rfl⟩
    have := List.mem_range.mp hi
    omega
  · intro q
    exact ⟨(b - 1).toNat, List.mem_range.mpr (by omega), by omega⟩
/-- a new thing is put at the next birth -/
theorem things_put {K : PySem.W.Frag} {H H3 : Hp} {h c d : Addr} {es : List (Int × PyData)} {kvs : List (Key × V)} {i : Nat} {v : V} {t : PyData} (kh : Kh h H H3) (hh : Hand H3 h c) (x : ThAt K H3 d es kvs) (hd : H d = Option.none)
    (hk : es.map (·.1) = births i) (hi : i < 1000) (hv : Dp K H3 v t) (ht : Th (1 + i) t) :
    ∃ H4 es' kvs', DPut H3 d (.int (1 + (i : Nat))) v H4 ∧ Kh h H H4 ∧ Hand H4 h c ∧ ThAt K H4 d es' kvs' ∧ es'.map (·.1) = births (i + 1) := by
  have hb : (1 : Int) + i ∉ es.map (·.1) := by
    rw [hk, births_mem]
    omega
  have hl : kvs.length < sizeLine := by
    have e := congrArg List.length x.ks
    rw [List.length_map, List.length_map] at e
    have e2 := congrArg List.length hk
    rw [List.length_map] at e2
    have e3 : (births i).length = i := by unfold births; rw [List.length_map, List.length_range]
    rw [e, e2, e3]
    exact Nat.lt_trans hi (by decide)
  refine ⟨_, _, _, DPut.k (k := Sum.inl (1 + (i : Int))) x.at_ hl, kh.mut hd, hh.put (fun xs e => by rw [x.at_] at e; cases e), x.snoc hb hv ht, ?_⟩
  rw [List.map_append, hk, births_succ]
  show births i ++ [1 + (i : Int)] = _
  rw [show (1 : Int) + i = i + 1 by omega]
theorem births_len (n : Nat) : (births n).length = n := by
  unfold births
  rw [List.length_map, List.length_range]
end Cm

/-! comprehensions over data -/
namespace Cm
open PySem L2
theorem sqt_put {K : PySem.W.Frag} {H : Hp} {D a : Addr} {xs ys zs : List V} (h : H D = some (.lst ys)) (q : SqT K H a xs) : SqT K (upd H D (.lst zs)) a xs := by
  rcases q with (q | ⟨o, q⟩) | q
  · exact .inl (.inl (by rw [upd_ne (ne_of q h (by intro z; cases z))]; exact q))
  · exact .inl (.inr ⟨o, by rw [upd_ne (ne_of q h (by intro z; cases z))]; exact q⟩)
  · exact .inr q
theorem same_put {H H' : Hp} {D : Addr} {o : HO} (s : Same H H') (h : H D = Option.none) : Same H (upd H' D o) := fun b u e => by
  rw [upd_ne (ne_of_none e h)]
  exact s b u e
theorem sqt_same {K : PySem.W.Frag} {H H' : Hp} {a : Addr} {xs : List V} (s : Same H H') (h : SqT K H a xs) : SqT K H' a xs := by
  rcases h with (h | ⟨o, h⟩) | h
  · exact .inl (.inl (s _ _ h))
  · exact .inl (.inr ⟨o, s _ _ h⟩)
  · exact .inr h
theorem flatDs_all {ds : List PyData} (h : flatDs ds = true) : ∀ d ∈ ds, flatD d = true := by
  induction ds with
  | nil => intro d hd; cases hd
  | cons a r ih =>
    have h' : flatD a = true ∧ flatDs r = true := by simpa [flatDs] using h
    intro d hd
    rcases List.mem_cons.mp hd with rfl | hd
    · exact h'.1
    · exact ih h'.2 d hd
theorem flatDs_app {ds es : List PyData} (h1 : flatDs ds = true) (h2 : flatDs es = true) : flatDs (ds ++ es) = true :=
  flatDs_of _ fun d hd => by
    rcases List.mem_append.mp hd with q | q
    · exact flatDs_all h1 d q
    · exact flatDs_all h2 d q
theorem walk_upto {n : Nat} : Walk (Itr 0 n) n (fun _ => True) (YFn fun i => .int ((i : Nat) : Int)) :=
  ⟨fun _ _ hi _ => hi, fun _ _ => Nat.le_refl _, fun i H x H' _ _ y => ⟨y.1, by
    have := y.2
    rw [Int.zero_add] at this
    exact this⟩⟩
/-! ### the same rules where the context is a comprehension's block: K is said -/
section
variable {X : Cx} {K : PySem.W.Frag}
theorem kx_tup (h : X.K = K := by rfl) : IxR X (rIxT K) := by subst h; exact ix_tup
theorem kx_list (h : X.K = K := by rfl) : IxR X (rIxL K) := by subst h; exact ix_list
theorem kx_seq (h : X.K = K := by rfl) : IxR X (rIx K) := by subst h; exact ix_seq
theorem ko_eqD (hu : X.A.units + 64 < cLine) (h : X.K = K := by rfl) : OpR X (compareOp .Eq) (rEqD K) := by subst h; exact op_eqD hu
theorem ko_neD (hu : X.A.units + 64 < cLine) (h : X.K = K := by rfl) : OpR X (compareOp .NotEq) (rNeD K) := by subst h; exact op_neD hu
theorem ko_in (h : X.K = K := by rfl) : OpR X (compareOp .In) (rIn K false) := by subst h; exact op_in_seq
theorem ko_notIn (h : X.K = K := by rfl) : OpR X (compareOp .NotIn) (rIn K true) := by subst h; exact op_notIn_seq
theorem ko_catA (h : X.K = K := by rfl) : OpR X (binaryOp .Add) (rCatA K) := by subst h; exact op_catA
def rLen (K : PySem.W.Frag) : List V → Hp → VK → Prop := fun xs H Q => ∃ p ys, xs = [.ref p] ∧ (SqL K H p ys ∨ SqT K H p ys) ∧ Q (.int ys.length) H
theorem kc_len (h : X.K = K := by rfl) : CallR X (.builtin "len") (rLen K) := by subst h; exact call_len_seq
end
/-- a comprehension whose items are data without lists: R i is the i-th turn's, none if it is left out -/
theorem lc_data {K : PySem.W.Frag} {J : It} {n : Nat} {G : Hp → Prop} {Y : Nat → Hp → V → Hp → Prop} (wk : Walk J n G Y) {g : TG} {tt : TT} {te : TE} {vs : List Nat} {σ : L2.St} {H1 : Hp} {D : Addr} {Qd : Hp → Prop} (R : Nat → Option PyData)
    (hD : H1 D = Option.none) (hn : n ≤ 100000) (hG : ∀ H, Same H1 H → G H) (hfl : ∀ i < n, ∀ d, R i = some d → flatD d = true)
    (hs : ∀ i x H H', i < n → Same H1 H → Y i H x H' → ∀ (Q1 : VK) (Q0 : Hp → Prop), (∀ v H4 d, R i = some d → Same H H4 → Dp K H4 v d → Q1 v H4) → (∀ H3, R i = none → Same H H3 → Q0 H3) →
      g x (wipe σ vs) H' fun σ2 H2 => wipe σ2 vs = wipe σ vs ∧ tt σ2 H2 fun b H3 => if b = true then te σ2 H3 Q1 else Q0 H3)
    (hd : ∀ H acc, Same H1 H → H D = some (.lst acc) → DpAll K H acc ((List.range n).filterMap R) → Qd H) :
    ∃ W : Nat → Nat → Hp → Prop, (∃ m, W 0 m (upd H1 D (.lst []))) ∧ ∀ i m H, W i m H →
      (J.stop i H ∧ Qd H) ∨ (J.go i H ∧ ∃ Nx : Hp → Prop, (∀ H', Nx H' → ∃ m', m' < m ∧ W (i + 1) m' H') ∧ ∀ x H', J.yld i H x H' → g x (wipe σ vs) H' fun σ2 H2 => wipe σ2 vs = wipe σ vs ∧ tt σ2 H2 fun b H3 =>
        if b = true then te σ2 H3 fun y H4 => ∃ acc, H4 D = some (.lst acc) ∧ acc.length < sizeLine ∧ Nx (upd H4 D (.lst (acc ++ [y]))) else Nx H3) := by
  have fl : ∀ i ≤ n, flatDs ((List.range i).filterMap R) = true := fun i hi => flatDs_of _ fun d hd => by
    obtain ⟨j, hj, e⟩ := List.mem_filterMap.mp hd
    exact hfl j (by have := List.mem_range.mp hj; omega) d e
  refine lc_it wk (fun i H => ∃ acc, Same H1 H ∧ H D = some (.lst acc) ∧ DpAll K H acc ((List.range i).filterMap R) ∧ acc.length ≤ i) ⟨[], same_new hD, upd_same, .nil, Nat.le_refl _⟩ (fun i H _ z => ?_) ?_ ?_
  · obtain ⟨acc, s, _⟩ := z
    exact hG H s
  · rintro i x H H' hi ⟨acc, s, hacc, ha, hl⟩ y
    refine hs i x H H' hi s y _ _ (fun v H4 d e s4 hv => ?_) (fun H3 e s3 => ?_)
    · have hD4 := s4 _ _ hacc
      refine ⟨acc, hD4, Nat.lt_of_le_of_lt hl (Nat.lt_of_lt_of_le (show i < 100000 by omega) (by decide)), acc ++ [v], same_put (s.trans s4) hD, upd_same, ?_, by rw [List.length_append]; exact Nat.succ_le_succ hl⟩
      rw [List.range_succ, List.filterMap_append]
      have e1 : ([i].filterMap R) = [d] := by simp [e]
      rw [e1]
      exact DpAll.snoc (dp_keep (fun _ _ q => sqt_put hD4 q) _ _ (hfl i hi d e) hv) (dps_keep (fun _ _ q => sqt_put hD4 q) _ _ (fl i (by omega)) (dps_same s4 _ _ ha))
    · refine ⟨acc, s.trans s3, s3 _ _ hacc, ?_, by omega⟩
      rw [List.range_succ, List.filterMap_append]
      have e1 : ([i].filterMap R) = [] := by simp [e]
      rw [e1, List.append_nil]
      exact dps_same s3 _ _ ha
  · rintro H ⟨acc, s, hacc, ha, _⟩
    exact hd H acc s hacc ha
/-- a comprehension that draws: each item is data that is good -/
theorem lc_draw {K : PySem.W.Frag} {M : Addr → Prop} {J : It} {n : Nat} {G : Hp → Prop} {Y : Nat → Hp → V → Hp → Prop} (wk : Walk J n G Y) {g : TG} {tt : TT} {te : TE} {vs : List Nat} {σ : L2.St} {H1 : Hp} {D : Addr} {Qd : Hp → Prop}
    (I : Hp → Prop) (Gd : PyData → Prop) (hM : ∀ a, M a → ∃ xs, H1 a = some (.lst xs)) (h0 : I (upd H1 D (.lst []))) (hI : ∀ H ys, Kp M H1 H → I H → I (upd H D (.lst ys)))
    (hD : H1 D = Option.none) (hn : n ≤ 100000) (hG : ∀ H, Kp M H1 H → I H → G H) (hfl : ∀ d, Gd d → flatD d = true)
    (hs : ∀ i x H H', i < n → Kp M H1 H → I H → Y i H x H' → ∀ (Q1 : VK) (Q0 : Hp → Prop), (∀ v H4 d, Gd d → Kp M H H4 → I H4 → Dp K H4 v d → Q1 v H4) → (∀ H3, Kp M H H3 → I H3 → Q0 H3) →
      g x (wipe σ vs) H' fun σ2 H2 => wipe σ2 vs = wipe σ vs ∧ tt σ2 H2 fun b H3 => if b = true then te σ2 H3 Q1 else Q0 H3)
    (hd : ∀ H acc ds, Kp M H1 H → I H → H D = some (.lst acc) → DpAll K H acc ds → (∀ d ∈ ds, Gd d) → ds.length ≤ n → Qd H) :
    ∃ W : Nat → Nat → Hp → Prop, (∃ m, W 0 m (upd H1 D (.lst []))) ∧ ∀ i m H, W i m H →
      (J.stop i H ∧ Qd H) ∨ (J.go i H ∧ ∃ Nx : Hp → Prop, (∀ H', Nx H' → ∃ m', m' < m ∧ W (i + 1) m' H') ∧ ∀ x H', J.yld i H x H' → g x (wipe σ vs) H' fun σ2 H2 => wipe σ2 vs = wipe σ vs ∧ tt σ2 H2 fun b H3 =>
        if b = true then te σ2 H3 fun y H4 => ∃ acc, H4 D = some (.lst acc) ∧ acc.length < sizeLine ∧ Nx (upd H4 D (.lst (acc ++ [y]))) else Nx H3) := by
  have nM : ¬ M D := fun m => by
    obtain ⟨xs, e⟩ := hM D m
    rw [hD] at e
    cases e
  refine lc_it wk (fun i H => ∃ acc ds, Kp M H1 H ∧ I H ∧ H D = some (.lst acc) ∧ DpAll K H acc ds ∧ (∀ d ∈ ds, Gd d) ∧ ds.length ≤ i) ⟨[], [], Kp.new hM hD, h0, upd_same, .nil, (by intro d hd; cases hd), Nat.le_refl _⟩ (fun i H _ z => ?_) ?_ ?_
  · obtain ⟨acc, ds, s, iH, _⟩ := z
    exact hG H s iH
  · rintro i x H H' hi ⟨acc, ds, s, iH, hacc, ha, hg, hl⟩ y
    have fl : flatDs ds = true := flatDs_of _ fun d hd => hfl d (hg d hd)
    refine hs i x H H' hi s iH y _ _ (fun v H4 d e s4 i4 hv => ?_) (fun H3 s3 i3 => ?_)
    · have hD4 := s4.st _ _ nM hacc
      refine ⟨acc, hD4, ?_, acc ++ [v], ds ++ [d], (s.trans s4).mut hD, hI _ _ (s.trans s4) i4, upd_same, ?_, ?_, by rw [List.length_append]; exact Nat.succ_le_succ hl⟩
      · rw [DpAll.len ha]
        exact Nat.lt_of_le_of_lt hl (Nat.lt_of_lt_of_le (show i < 100000 by omega) (by decide))
      · exact DpAll.snoc (dp_keep (fun _ _ q => sqt_put hD4 q) _ _ (hfl d e) hv) (dps_keep (fun _ _ q => sqt_put hD4 q) _ _ fl (dps_keep (fun _ _ q => s4.tup q) _ _ fl ha))
      · intro d' hd'
        rcases List.mem_append.mp hd' with q | q
        · exact hg d' q
        · cases List.mem_singleton.mp q
          exact e
    · exact ⟨acc, ds, s.trans s3, i3, s3.st _ _ nM hacc, dps_keep (fun _ _ q => s3.tup q) _ _ fl ha, hg, by omega⟩
  · rintro H ⟨acc, ds, s, iH, hacc, ha, hg, hl⟩
    exact hd H acc ds s iH hacc ha hg hl
/-! ### data that repr takes -/
structure Sm (D W : Nat) (d : PyData) : Prop where
  ok : okD d = true
  dp : d.depth ≤ D
  wt : d.weight ≤ W
theorem Sm.mono {D W D' W' : Nat} {d : PyData} (x : Sm D W d) (h1 : D ≤ D') (h2 : W ≤ W') : Sm D' W' d := ⟨x.ok, Nat.le_trans x.dp h1, Nat.le_trans x.wt h2⟩
theorem sm_int {i : Int} (h : i.natAbs < 10 ^ 12) : Sm 0 64 (.int i) := ⟨by simp only [okD]; exact decide_eq_true h, by simp [PyData.depth], wt_int h⟩
theorem sm_all {D W : Nat} : ∀ {ds : List PyData}, (∀ d ∈ ds, Sm D W d) → okDs ds = true ∧ PyData.depthAll ds ≤ D ∧ PyData.weightAll ds ≤ ds.length * (W + 2)
  | [], _ => ⟨rfl, by simp [PyData.depthAll], by simp [PyData.weightAll]⟩
  | d :: ds, h => by
    have a := h d List.mem_cons_self
    obtain ⟨b1, b2, b3⟩ := sm_all (ds := ds) fun x hx => h x (List.mem_cons_of_mem _ hx)
    refine ⟨by simp [okDs, a.ok, b1], ?_, ?_⟩
    · have := a.dp
      simp only [PyData.depthAll]
      omega
    · have := a.wt
      simp only [PyData.weightAll, List.length_cons, Nat.add_mul]
      omega
theorem Sm.tuple {D W m : Nat} {ds : List PyData} (h : ∀ d ∈ ds, Sm D W d) (hm : ds.length ≤ m) : Sm (D + 1) (m * (W + 2)) (.tuple ds) := by
  obtain ⟨a, b, c⟩ := sm_all h
  refine ⟨by simpa [okD] using a, ?_, ?_⟩
  · simp only [PyData.depth]
    omega
  · simp only [PyData.weight]
    exact Nat.le_trans c (Nat.mul_le_mul_right _ hm)
theorem Sm.rep {K : PySem.W.Frag} {H : Hp} {x : V} {D W : Nat} {d : PyData} {Q : VK} (s : Sm D W d) (h1 : D ≤ 60) (h2 : W ≤ 2 ^ 20) (hd : Rp K H x d) (q : Q (.str d.shown) H) : rRepr K [x] H Q :=
  ⟨x, d, rfl, hd, s.ok, Nat.le_trans s.dp h1, Nat.le_trans s.wt h2, q⟩
theorem sm_kv {D W : Nat} : ∀ {es : List (Int × PyData)}, (∀ e ∈ es, e.1.natAbs < 10 ^ 12 ∧ Sm D W e.2) → okDk (es.map fun e => (PyData.int e.1, e.2)) = true ∧ PyData.depthKv (es.map fun e => (PyData.int e.1, e.2)) ≤ D ∧ PyData.weightKv (es.map fun e => (PyData.int e.1, e.2)) ≤ es.length * (W + 70)
  | [], _ => ⟨rfl, by simp [PyData.depthKv], by simp [PyData.weightKv]⟩
  | e :: es, h => by
    obtain ⟨a1, a⟩ := h e List.mem_cons_self
    obtain ⟨b1, b2, b3⟩ := sm_kv (es := es) fun x hx => h x (List.mem_cons_of_mem _ hx)
    have i := sm_int a1
    refine ⟨by simp [okDk, a.ok, b1, i.ok], ?_, ?_⟩
    · have := a.dp
      have := i.dp
      simp only [List.map_cons, PyData.depthKv]
      omega
    · have := a.wt
      have := i.wt
      simp only [List.map_cons, PyData.weightKv, List.length_cons, Nat.add_mul] at this ⊢
      omega
/-- what repr is asked of -/
def Rok (K : PySem.W.Frag) (H : Hp) (x : V) (d : PyData) : Prop := Rp K H x d ∧ okD d = true ∧ d.depth ≤ 60 ∧ d.weight ≤ 2 ^ 20
theorem Sm.rok {K : PySem.W.Frag} {H : Hp} {x : V} {D W : Nat} {d : PyData} (s : Sm D W d) (h1 : D ≤ 60) (h2 : W ≤ 2 ^ 20) (hd : Rp K H x d) : Rok K H x d :=
  ⟨hd, s.ok, Nat.le_trans s.dp h1, Nat.le_trans s.wt h2⟩
/-- the whole dict of things -/
theorem ThAt.rok {K : PySem.W.Frag} {H : Hp} {d : Addr} {es : List (Int × PyData)} {kvs : List (Key × V)} (x : ThAt K H d es kvs) {n : Nat} (hk : es.map (·.1) = births n) (hn : n ≤ 100) : Rok K H (.ref d) (PyData.dict (es.map fun e => (PyData.int e.1, e.2))) := by
  obtain ⟨a, b, c⟩ := sm_kv (D := 8) (W := 4000) (es := es) fun e he => by
    have m : e.1 ∈ births n := by rw [← hk]; exact List.mem_map.mpr ⟨e, he, rfl⟩
    have := births_mem.mp m
    exact ⟨by omega, ⟨(x.th e he).ok, (x.th e he).dp, (x.th e he).wt⟩⟩
  have hl : es.length = n := by
    have e := congrArg List.length hk
    rw [List.length_map, births_len] at e
    exact e
  refine ⟨.inr ⟨d, kvs, es, rfl, x.at_, x.ks, x.vs, x.fl, rfl⟩, by simpa [okD] using a, ?_, ?_⟩
  · simp only [PyData.depth]
    omega
  · simp only [PyData.weight]
    refine Nat.le_trans c ?_
    rw [hl]
    exact Nat.le_trans (Nat.mul_le_mul_right _ hn) (by decide)
end Cm

/-! defs that may ask repr, called by name where nothing is under repr -/
namespace Cm
open PySem L2 PySem.Spec PyProof.Rows
structure ClG (P : Program) (w : World) (K : PySem.W.Frag) (mg : Str → Option Value) (base : Heap) (k : Nat) (x : Str) (sp : Sp) : Prop where
  ex : ∃ (f : Addr) (fd : FuncData) (ps : List Str), (∀ vs H Q E, sp vs H Q E → vs.length = ps.length) ∧ LawAt P w K mg base k f fd ps sp ∧ mg x = some (.ref f) ∧ PySem.W.keepIn K (.ref f) = true ∧ Binds K fd ps []
section
variable {P : Program} {w : World} {K : PySem.W.Frag} {mg : Str → Option Value} {base : Heap}
theorem clG_of {x : Str} {st : Stmt} {N ps : List Str} {k : Nat} {sp : Sp} (T : At K mg x st ps) (S : FnScope N ps (defScope st))
    (len : ∀ vs H Q E, sp vs H Q E → vs.length = ps.length)
    (hb : ∀ (f : Addr) (cdv : Value) (A : Around) (outer : List Env) (s : Shared) (H : Hp) (vs : List V) (Q : VK) (E : XK), (A.deeper (envOfC x (defScope st) s.heap.objs.size f cdv)).guards = some [] →
      Room k (A.deeper (envOfC x (defScope st) s.heap.objs.size f cdv)) → sp vs H Q E →
      ∃ t, PSs (cxOf CX0 P w K mg base N x (defScope st) f cdv A outer s H E).nox (defBody st) t ∧ t { nx := fun _ H' => Q .non H', rt := Q } (start N vs) H) :
    ClG P w K mg base (k + 1) x sp := by
  obtain ⟨f, fd, F, hm, b⟩ := T.ex
  exact ⟨f, fd, ps, len, lawAt_of F S len fun cdv A outer s H vs Q E hg => hb f cdv A outer s H vs Q E hg, hm, F.kp, b⟩
end
section
variable {X : Cx} {j k : Nat} {x : Str} {sp : Sp} {e : Expr} {es : List Expr} {t : TA} {p pos : Pos}
theorem pe_cG (c : ClG X.prog X.w X.K X.mg X.base k x sp) (hgd : X.A.guards = some []) (hr : Room j X.A) (hk : k ≤ j) (hg : Gl X x) (ha : PA X (e :: es) t)
    (hdb : (x == ("__debug__" : Str)) = false := by decide) (he : starEach (e :: es) X.env = (false, eval e X.env) :: starEach es X.env := by rfl)
    (hpl : (backTo pos (starEach es X.env)).any (·.1) = false := by rfl) : PE X (.Call (.Name x p) (e :: es) [] pos) (tCall sp [] E0 t) := by
  obtain ⟨f, fd, ps, len, F, hm, kp, b⟩ := c.ex
  refine ⟨fun pins s σ H Q I h => ?_⟩
  refine wpAny_Call_Name_kw (ld_glob I hg hm ?_ hdb)
  refine PySem.W.callWith_K (h₀ := X.base) I.ok.mod.kin kp (thn (ha.run pos pins s σ H _ I h) fun us s1 ⟨vs, H1, I1, r, q⟩ => ⟨I1.kIn, ?_⟩) he hpl
  have q' : sp vs H1 Q E0 := by
    have q0 : sp (vs ++ []) H1 Q E0 := q
    rwa [List.append_nil] at q0
  have hl : us.length = ps.length := by rw [← r.length]; exact len _ _ _ _ q'
  have hb := b s1 us I1.kIn (by rw [List.append_nil]; exact hl)
  rw [List.append_nil] at hb
  refine wpAny_call (codeAny_mono (F X.A X.stack s1 H1 ⟨us, []⟩ us vs Q E0 hgd (hr.mono hk) I1.env0 hb r q') fun r s' hq => ?_)
  cases r with
  | error e => exact pass0 pins σ H1 s1 e s' I1 hq
  | ok fl =>
    cases fl with
    | ret u => exact I1.after hq
    | next => exact False.elim hq
    | brk => exact False.elim hq
    | cont => exact False.elim hq
end
/-! ### a walk over a list or a tuple -/
def iSeq (K : PySem.W.Frag) (tl : TE) : TI := fun σ H R => tl σ H fun x H1 => ∃ a, x = .ref a ∧ ((∃ xs, SqL K H1 a xs) ∧ R (Itl K a) H1 ∨ (∃ xs, SqT K H1 a xs) ∧ R (Itt K a) H1)
theorem pi_seq {X : Cx} {tg l : Expr} {tl : TE} (hl : PE X l tl) : PI X tg l (iSeq X.K tl) := by
  refine ⟨fun pins s σ H R I h => ?_⟩
  refine thn (hl.run pins s σ H _ I h) fun v s1 ⟨x, H1, I1, r1, q1⟩ => ?_
  obtain ⟨a, rfl, q1⟩ := q1
  cases r1
  have fp : ∀ b ∈ [s1.heap.objs.size], b = s1.heap.objs.size := fun b hb => by simpa using hb
  rcases q1 with ⟨⟨xs, hq⟩, q⟩ | ⟨⟨xs, hq⟩, q⟩
  · obtain ⟨its, rv, p, hz⟩ := I1.list hq
    refine wpAny_pyIter_list p.isList ?_
    refine ⟨_, _, _, _, H1, rfl, I1.kept (t' := s1.toks) fun b o e => Heap.get?_push_of_some _ e, turn_list a _, ⟨_, Heap.get?_push_size _ rfl, rfl, rfl⟩, fun b hb => ?_, q⟩
    cases fp b hb
    exact I1.fpOk (Nat.le_refl _) (I1.hok.fresh (Nat.le_refl _))
  · obtain ⟨its, rv, p, hz⟩ := I1.tuple hq
    refine wpAny_pyIter_tuple (show s1.heap.IsTuple a its.toArray from p) ?_
    refine ⟨_, _, _, _, H1, rfl, I1.kept (t' := s1.toks) fun b o e => Heap.get?_push_of_some _ e, turn_tuple a _, ⟨_, Heap.get?_push_size _ rfl, rfl, rfl⟩, fun b hb => ?_, q⟩
    cases fp b hb
    exact I1.fpOk (Nat.le_refl _) (I1.hok.fresh (Nat.le_refl _))
theorem ks_tupA {X : Cx} {K : PySem.W.Frag} (h : X.K = K := by rfl) : SlR X (rSlA K) := by subst h; exact sl_tupA
theorem ne_same (x : V) : (!decide (x = x)) = false := by simp
theorem tyx_tup {K : PySem.W.Frag} {H : Hp} {a : Addr} {xs : List V} (h : SqT K H a xs) : TyX K H (.ref a) (.type "tuple") := by
  rcases h with (h | ⟨o, h⟩) | ⟨o, its, n, e, c, _⟩
  · exact .base (.tup h)
  · exact .fTuple h
  · exact .kTuple e c
theorem kit_tup {K : PySem.W.Frag} : PySem.W.kitOne K (.type "tuple") (.type "tuple") = some true := by rfl
end Cm

namespace K13
open PySem L2 Cm
def top (i : Nat) : Stmt := PySem.Challenge.pw_goonagain_k13_uses_of_names.main.body.getD i (.Pass ⟨0, 0, 0, 0⟩)
structure Txt (mg : Str → Option Value) : Prop where
  abs : mg "abs" = none
  enumerate : mg "enumerate" = none
  int : mg "int" = none
  len : mg "len" = none
  range : mg "range" = none
  str : mg "str" = none
  tuple : mg "tuple" = none
section
variable {P : Program} {w : World} {K : PySem.W.Frag} {mg : Str → Option Value} {base : Heap}
-- mix
abbrev s_l_mix : Stmt := top 7
abbrev N_l_mix : List Str := ["_law_number", "_law_turn", "_law_once", "_law_twice"]
theorem sc_l_mix : FnScope N_l_mix ["_law_number", "_law_turn"] (defScope s_l_mix) := ⟨rfl, rfl, rfl, by decide +kernel, rfl, by decide +kernel, by decide +kernel⟩
theorem ok_mix (T : Txt mg) (D : At K mg "_law_mix" s_l_mix ["_law_number", "_law_turn"]) : Cl P w K mg base 1 "_law_mix" spMix := by
  refine cl_of D sc_l_mix (fun vs H Q E h => ?_) fun f cdv A outer s H vs Q E hr h => ?_
  · obtain ⟨a, b, rfl, _⟩ := h
    rfl
  · obtain ⟨a, b, rfl, k⟩ := h
    refine ⟨_, (pss_cons (ps_set (i := 2) sc_l_mix.nd rfl (Or.inl rfl) (pe_op op_mod (pe_callTy call_int1 (by rfl) T.int (by decide +kernel) (pa_cons (pe_op op_add (pe_op op_add (pe_op op_mul (pv 0) pe_int) (pe_op op_mul (pv 1) pe_int)) pe_int) pa_nil)) pe_int))
      (pss_cons (ps_set (i := 3) sc_l_mix.nd rfl (Or.inl rfl) (pe_op op_mod (pe_callTy call_int1 (by rfl) T.int (by decide +kernel) (pa_cons (pe_op op_add (pe_op op_add (pe_op op_mul (pv 2) (pv 2)) (pe_op op_mul (pe_op op_fdiv (pv 2) pe_int) pe_int)) (pe_op op_mul (pv 1) pe_int)) pa_nil)) pe_int))
      (pss_one (ps_ret (pe_op op_fdiv (pe_op op_mod (pe_callTy call_int1 (by rfl) T.int (by decide +kernel) (pa_cons (pe_op op_add (pe_op op_fdiv (pe_op op_mul (pv 3) (pv 3)) pe_int) (pv 2)) pa_nil)) pe_int) pe_int))))), ?_⟩
    refine ⟨_, rfl, _, _, rfl, rfl, .inr (by decide), ?_⟩
    refine ⟨_, rfl, _, _, rfl, rfl, .inr (by decide), ?_⟩
    refine ⟨_, _, rfl, rfl, _, _, rfl, rfl, .inl ⟨_, rfl, _, _, rfl, rfl, (by show (0 : Int) < _; decide), ?_⟩⟩
    generalize hx : (a * 48271 + b * 16807 + 11) % 2147483647 = x
    have x0 : 0 ≤ x := by omega
    have x1 : x < 2147483647 := by omega
    clear hx
    refine ⟨_, rfl, _, rfl, _, _, rfl, rfl, .inl ⟨by omega, by omega⟩, ?_⟩
    refine ⟨_, rfl, _, _, rfl, rfl, ⟨by decide, by decide⟩, _, _, rfl, rfl, .inr (by decide), ?_⟩
    refine ⟨_, _, rfl, rfl, _, rfl, _, _, rfl, rfl, .inr (by decide), _, _, rfl, rfl, .inl ⟨_, rfl, _, _, rfl, rfl, (by show (0 : Int) < _; decide), ?_⟩⟩
    generalize hy : (x * x + x / 127 * 40692 + b * 69621) % 2147483399 = y
    have y0 : 0 ≤ y := by omega
    have y1 : y < 2147483399 := by omega
    clear hy
    refine ⟨_, rfl, _, rfl, _, _, rfl, rfl, .inl ⟨by omega, by omega⟩, _, _, rfl, rfl, ⟨by decide, by decide⟩, ?_⟩
    refine ⟨_, rfl, _, _, rfl, rfl, .inl ⟨_, rfl, _, _, rfl, rfl, (by show (0 : Int) < _; decide), _, _, rfl, rfl, ⟨by decide, by decide⟩, ?_⟩⟩
    exact k _
-- hand
abbrev s_l_hand : Stmt := top 8
abbrev N_l_hand : List Str := ["_law_script", "_law_total", "_law_k", "_law_cell"]
theorem sc_l_hand : FnScope N_l_hand ["_law_script"] (defScope s_l_hand) := ⟨rfl, rfl, rfl, by decide +kernel, rfl, by decide +kernel, by decide +kernel⟩
theorem ok_hand (T : Txt mg) (D : At K mg "_law_hand" s_l_hand ["_law_script"]) : Cl P w K mg base 1 "_law_hand" (spHand K) := by
  refine cl_of D sc_l_hand (fun vs H Q E h => ?_) fun f cdv A outer s H vs Q E hr h => ?_
  · obtain ⟨a, ns, rfl, _⟩ := h
    rfl
  · obtain ⟨a, ns, rfl, hS, hlen, k⟩ := h
    refine ⟨_, (pss_cons (ps_set (i := 1) sc_l_hand.nd rfl (Or.inl rfl) pe_int)
      (pss_cons (ps_for PassesOwn.never rfl (pi_enum (by rfl) T.enumerate (pa_cons (pv 0) pa_nil)) (pg_tup (by rfl) (pgs_cons (pg_name (i := 2) sc_l_hand.nd rfl (Or.inl rfl)) (pgs_cons (pg_name (i := 3) sc_l_hand.nd rfl (Or.inl rfl)) pgs_nil)))
        (pss_one (ps_set (i := 1) sc_l_hand.nd rfl (Or.inl rfl) (pe_op op_mod (pe_callTy call_int1 (by rfl) T.int (by decide +kernel) (pa_cons (pe_op op_add (pe_op op_mul (pv 1) pe_int) (pe_op op_mul (pe_callTy call_int1 (by rfl) T.int (by decide +kernel) (pa_cons (pv 3) pa_nil)) (pe_op op_add (pv 2) pe_int))) pa_nil)) pe_int))))
      (pss_one (ps_ret (pe_lst (pa_cons (pe_lc (own := [("_law_cell", 3)]) rfl sc_l_hand.nd (pi_list (pv 0)) (blkOk_by (N := N_l_hand) (sc := defScope s_l_hand) (by decide +kernel))
      (fun _ _ _ _ _ => (pg_name (i := 3) sc_l_hand.nd rfl (Or.inl rfl)))
      (fun _ _ _ _ _ => pts_nil)
      (fun _ _ _ _ _ => (pe_callB call_abs (by rfl) T.abs (by decide +kernel) (pa_cons (pe_callTy call_int1 (by rfl) T.int (by decide +kernel) (pa_cons (pv 3) pa_nil)) pa_nil)))) (pa_cons pe_int (pa_cons pe_int (pa_cons (pv 1) pa_nil))))))))), ?_⟩
    refine ⟨_, rfl, a, _, rfl, hS, ?_⟩
    refine for_it (walk_enum (xs := ns.map V.int)) (fun i σ H' => ∃ (t : Int) (v2 v3 : Option V), σ = [some (.ref a), some (.int t), v2, v3] ∧ Same H H') ⟨0, none, none, rfl, Same.refl H⟩ (fun i σ H' _ z => ?_) ?_ ?_
    · obtain ⟨t, v2, v3, rfl, s1⟩ := z
      exact s1.seq hS
    · rintro i x σ H1 H2 hi ⟨t, v2, v3, rfl, s1⟩ ⟨T1, x1, x2, rfl, hT, rfl, e1, e2⟩
      cases e1
      obtain ⟨n, en, rfl⟩ := map_at e2
      refine ⟨T1, _, rfl, .inl (.inl upd_same), rfl, _, _, rfl, _, _, rfl, rfl, ?_⟩
      refine ⟨_, rfl, _, _, rfl, rfl, .inr (by decide), _, rfl, .inl ⟨_, rfl, ?_⟩⟩
      refine ⟨_, rfl, _, _, rfl, rfl, _, _, rfl, rfl, .inr ⟨?_, ?_⟩, ?_⟩
      · rw [List.length_map] at hi
        omega
      · rw [List.length_map] at hi
        omega
      refine ⟨_, _, rfl, rfl, .inl ⟨_, rfl, _, _, rfl, rfl, (by show (0 : Int) < _; decide), ?_⟩⟩
      exact ⟨_, _, _, rfl, s1.trans (same_new hT)⟩
    · rintro σ H1 ⟨t, v2, v3, rfl, s1⟩
      refine ⟨_, rfl, a, rfl, ⟨_, s1.seq hS⟩, fun D hD => ?_⟩
      refine lc_it (walk_list (xs := ns.map V.int)) (fun i H' => ∃ acc : List Int, Same H1 H' ∧ H' D = some (.lst (acc.map V.int)) ∧ acc.length = i) ⟨[], same_new hD, upd_same, rfl⟩ (fun i H' _ z => ?_) ?_ ?_
      · obtain ⟨acc, s2, _⟩ := z
        exact (s1.trans s2).seq hS
      · rintro i x H2 H3 hi ⟨acc, s2, hacc, hl⟩ ⟨rfl, e2⟩
        obtain ⟨n, en, rfl⟩ := map_at e2
        rw [List.length_map] at hi
        refine ⟨rfl, ?_⟩
        refine ⟨_, rfl, .inl ⟨_, rfl, _, rfl, _, hacc, ?_, ?_⟩⟩
        · rw [List.length_map]
          exact Nat.lt_of_lt_of_le (show acc.length < 63 by omega) (by decide)
        · refine ⟨acc ++ [if n < 0 then -n else n], fun b o e => ?_, ?_, ?_⟩
          · have hb : b ≠ D := ne_of_none e hD
            rw [upd_ne hb]
            exact s2 b o e
          · rw [upd_same, List.map_append]
            rfl
          · rw [List.length_append, hl]
            rfl
      · rintro H2 ⟨acc, s2, hacc, hl⟩
        refine ⟨_, rfl, by show 4 ≤ sizeLine; decide, fun p hp => ?_⟩
        rw [List.length_map] at hl
        have npD : D ≠ p := ne_of_none hacc hp
        refine k p D _ ((s1.trans s2).trans (same_new hp)) ((s1.trans s2).free hp) (s1.free hD) ⟨acc, _, _, _, upd_same, ?_, npD, Int.le_refl 0, by omega⟩
        rw [upd_ne npD]
        exact hacc
end
section
variable {P : Program} {w : World} {K : PySem.W.Frag} {mg : Str → Option Value} {base : Heap}
abbrev s_l_draw : Stmt := top 9
abbrev N_l_draw : List Str := ["_law_hand_here", "_law_many", "_law_cell", "_law_rest"]
theorem sc_l_draw : FnScope N_l_draw ["_law_hand_here", "_law_many"] (defScope s_l_draw) := ⟨rfl, rfl, rfl, by decide +kernel, rfl, by decide +kernel, by decide +kernel⟩
theorem ok_draw (T : Txt mg) (c_l_mix : Cl P w K mg base 1 "_law_mix" spMix) (D : At K mg "_law_draw" s_l_draw ["_law_hand_here", "_law_many"]) : Cl P w K mg base 2 "_law_draw" spDraw := by
  refine cl_of D sc_l_draw (fun vs H Q E h => ?_) fun f cdv A outer s H vs Q E hr h => ?_
  · obtain ⟨h, c, m, rfl, _⟩ := h
    rfl
  · obtain ⟨h, c, m, rfl, ⟨cells, i, b, t, e1, e2, nch, hi, hlen⟩, hm0, hm1, k⟩ := h
    refine ⟨_, (pss_mid (ps_if (PW.pt (pw_and (pt_cmpR op_eq (pe_ix ix_list (pv 0) pe_int (fun _ _ => rfl)) pe_int (nomark _)) (pw_and1 (pt_cmpR op_lt (pe_ix ix_list (pv 0) pe_int (fun _ _ => rfl)) (pe_callB call_len_seq (by rfl) T.len (by decide +kernel) (pa_cons (pe_ix ix_list (pv 0) pe_int (fun _ _ => rfl)) pa_nil)) (nomark _)))))
        (pss_cons (ps_set (i := 2) sc_l_draw.nd rfl (Or.inl rfl) (pe_ix ix_list (pe_ix ix_list (pv 0) pe_int (fun _ _ => rfl)) (pe_ix ix_list (pv 0) pe_int (fun _ _ => rfl)) (fun _ _ => rfl)))
        (pss_cons (ps_asg (pe_op op_add (pe_ix ix_list (pv 0) pe_int (fun _ _ => rfl)) pe_int) (pg_sub (pv 0) pe_int set_list))
        (pss_cons (ps_if (pt_cmpR op_lt (pv 2) (pe_op op_pow pe_int pe_int) (nomark _))
          (pss_one (ps_ret (pe_op op_mod (pe_callTy call_int1 (by rfl) T.int (by decide +kernel) (pa_cons (pe_c c_l_mix hr (by decide) (by rfl) (pa_cons (pe_op op_mod (pe_callTy call_int1 (by rfl) T.int (by decide +kernel) (pa_cons (pv 2) pa_nil)) pe_int) (pa_cons (pe_ix ix_list (pv 0) pe_int (fun _ _ => rfl)) pa_nil))) pa_nil)) (pv 1))))
          pss_nil)
        (pss_one (ps_asg (pv 2) (pg_sub (pv 0) pe_int set_list))))))
        pss_nil)
      (pss_cons (ps_if (pt_cmpR op_gt (pe_ix ix_list (pv 0) pe_int (fun _ _ => rfl)) pe_int (nomark _))
        (pss_cons (ps_set (i := 3) sc_l_draw.nd rfl (Or.inl rfl) (pe_ix ix_list (pv 0) pe_int (fun _ _ => rfl)))
        (pss_cons (ps_asg (pe_op op_fdivW (pv 3) (pv 1)) (pg_sub (pv 0) pe_int set_list))
        (pss_one (ps_ret (pe_op op_mod (pe_callTy call_int1 (by rfl) T.int (by decide +kernel) (pa_cons (pv 3) pa_nil)) (pv 1))))))
        pss_nil)
      (pss_cons (ps_asg (pe_op op_mod (pe_callTy call_int1 (by rfl) T.int (by decide +kernel) (pa_cons (pe_op op_add (pe_ix ix_list (pv 0) pe_int (fun _ _ => rfl)) pe_int) pa_nil)) pe_int) (pg_sub (pv 0) pe_int set_list))
      (pss_one (ps_ret (pe_op op_mod (pe_callTy call_int1 (by rfl) T.int (by decide +kernel) (pa_cons (pe_c c_l_mix hr (by decide) (by rfl) (pa_cons (pe_ix ix_list (pv 0) pe_int (fun _ _ => rfl)) (pa_cons (pe_ix ix_list (pv 0) pe_int (fun _ _ => rfl)) pa_nil))) pa_nil)) (pv 1))))))), ?_⟩
    have big : CDivW b m := wide_div (b := 100) hm0 (by omega) (by decide) (by decide)
    have kh0 : ∀ {ys : List V}, Kh h H (upd H h (.lst ys)) := Kp.put (fun a ha => by rw [ha]; exact ⟨_, e1⟩) rfl
    refine ⟨fun σ' H' => ∃ (i b t : Int) (v2 v3 : Option V), σ' = [some (.ref h), some (.int m), v2, v3] ∧ Kh h H H' ∧ H' h = some (.lst [.ref c, .int i, .int b, .int t]) ∧ H' c = some (.lst (cells.map V.int)) ∧ 0 ≤ i, ?_, ?_⟩
    · refine ⟨_, rfl, _, _, _, _, rfl, rfl, .inl (.inl e1), rfl, rfl, _, rfl, ?_⟩
      refine ite2 (fun _ => ?_) (fun _ => ?_)
      · refine ⟨_, rfl, _, _, _, _, rfl, rfl, .inl (.inl e1), rfl, _, rfl, _, _, _, _, rfl, rfl, .inl (.inl e1), rfl, c, _, rfl, .inl (.inl (.inl e2)), _, _, rfl, rfl, _, rfl, ?_⟩
        refine ite2 (fun hlt => ?_) (fun _ => ?_)
        · have hlt' : i < (cells.length : Int) := by
            have := of_decide_eq_true hlt
            rw [List.length_map] at this
            exact this
          obtain ⟨j, rfl⟩ : ∃ j : Nat, i = (j : Int) := ⟨i.toNat, by omega⟩
          have hj : j < cells.length := by omega
          have hat : atI (cells.map V.int) (j : Int) = some (.int cells[j]) := atI_nat (by rw [List.getElem?_map, List.getElem?_eq_getElem hj]; rfl)
          refine ⟨_, rfl, _, _, _, _, rfl, rfl, .inl (.inl e1), rfl, _, rfl, _, _, _, _, rfl, rfl, .inl (.inl e1), rfl, c, _, _, _, rfl, rfl, .inl (.inl e2), hat, ?_⟩
          refine ⟨_, rfl, _, _, _, _, rfl, rfl, .inl (.inl e1), rfl, _, _, rfl, rfl, _, rfl, h, _, _, 1, rfl, rfl, e1, rfl, ?_⟩
          have e2' : upd H h (.lst [.ref c, .int ((j : Int) + 1), .int b, .int t]) c = some (.lst (cells.map V.int)) := by rw [upd_ne nch]; exact e2
          refine ⟨_, rfl, _, _, rfl, rfl, ⟨by decide, by decide, by decide⟩, _, _, rfl, rfl, _, rfl, ?_⟩
          refine ite2 (fun _ => ?_) (fun _ => ?_)
          · refine ⟨_, rfl, .inl ⟨_, rfl, _, _, rfl, rfl, (by show (0 : Int) < _; decide), _, rfl, _, _, _, _, rfl, rfl, .inl (.inl upd_same), rfl, ?_⟩⟩
            refine ⟨_, _, rfl, fun n => .inl ⟨_, rfl, _, rfl, _, _, rfl, rfl, hm0, ?_⟩⟩
            exact k _ _ (Int.emod_nonneg _ (by omega)) (Int.emod_lt_of_pos _ hm0) kh0 ⟨cells, _, _, _, upd_same, e2', nch, by omega, hlen⟩
          · refine ⟨_, rfl, _, rfl, h, _, _, 2, rfl, rfl, upd_same, rfl, ?_⟩
            rw [upd_upd]
            exact ⟨_, _, _, _, _, rfl, kh0, upd_same, by rw [upd_ne nch]; exact e2, by omega⟩
        · exact ⟨i, b, t, _, _, rfl, Kp.refl (fun a ha => by rw [ha]; exact ⟨_, e1⟩), e1, e2, hi⟩
      · exact ⟨i, b, t, _, _, rfl, Kp.refl (fun a ha => by rw [ha]; exact ⟨_, e1⟩), e1, e2, hi⟩
    · rintro σ' H' ⟨i, b, t, v2, v3, rfl, kh, e1, e2, hi⟩
      have kh1 : ∀ {ys : List V}, Kh h H (upd H' h (.lst ys)) := kh.trans (Kp.put (fun a ha => by rw [ha]; exact ⟨_, e1⟩) rfl)
      refine ⟨_, rfl, _, _, _, _, rfl, rfl, .inl (.inl e1), rfl, _, _, rfl, rfl, _, rfl, ?_⟩
      refine ite2 (fun _ => ?_) (fun _ => ?_)
      · refine ⟨_, rfl, _, _, _, _, rfl, rfl, .inl (.inl e1), rfl, _, rfl, _, rfl, _, _, rfl, rfl, big, _, rfl, h, _, _, 2, rfl, rfl, e1, rfl, ?_⟩
        refine ⟨_, rfl, .inl ⟨_, rfl, _, rfl, _, _, rfl, rfl, hm0, ?_⟩⟩
        exact k _ _ (Int.emod_nonneg _ (by omega)) (Int.emod_lt_of_pos _ hm0) kh1 ⟨cells, _, _, _, upd_same, by rw [upd_ne nch]; exact e2, nch, hi, hlen⟩
      · refine ⟨_, rfl, _, _, _, _, rfl, rfl, .inl (.inl e1), rfl, _, _, rfl, rfl, .inl ⟨_, rfl, _, _, rfl, rfl, (by show (0 : Int) < _; decide), _, rfl, h, _, _, 3, rfl, rfl, e1, rfl, ?_⟩⟩
        refine ⟨_, rfl, _, _, _, _, rfl, rfl, .inl (.inl upd_same), rfl, _, rfl, _, _, _, _, rfl, rfl, .inl (.inl upd_same), rfl, ?_⟩
        refine ⟨_, _, rfl, fun n => .inl ⟨_, rfl, _, rfl, _, _, rfl, rfl, hm0, ?_⟩⟩
        exact k _ _ (Int.emod_nonneg _ (by omega)) (Int.emod_lt_of_pos _ hm0) kh1 ⟨cells, _, _, _, upd_same, by rw [upd_ne nch]; exact e2, nch, hi, hlen⟩
end
section
variable {P : Program} {w : World} {K : PySem.W.Frag} {mg : Str → Option Value} {base : Heap}
abbrev s_l_pick : Stmt := top 10
abbrev N_l_pick : List Str := ["_law_hand_here", "_law_things"]
theorem sc_l_pick : FnScope N_l_pick ["_law_hand_here", "_law_things"] (defScope s_l_pick) := ⟨rfl, rfl, rfl, by decide +kernel, rfl, by decide +kernel, by decide +kernel⟩
theorem ok_pick (T : Txt mg) (c_l_draw : Cl P w K mg base 2 "_law_draw" spDraw) (D : At K mg "_law_pick" s_l_pick ["_law_hand_here", "_law_things"]) : Cl P w K mg base 3 "_law_pick" (spPick K) := by
  refine cl_of D sc_l_pick (fun vs H Q E h => ?_) fun f cdv A outer s H vs Q E hr h => ?_
  · obtain ⟨h, c, a, xs, rfl, _⟩ := h
    rfl
  · obtain ⟨h, c, a, xs, rfl, hh, hx, hne, hlen, k⟩ := h
    have hpos : 0 < xs.length := List.length_pos_iff.mpr hne
    refine ⟨_, (pss_one (ps_ret (pe_ix ix_seq (pv 1) (pe_c c_l_draw hr (by decide) (by rfl) (pa_cons (pv 0) (pa_cons (pe_callB call_len_seq (by rfl) T.len (by decide +kernel) (pa_cons (pv 1) pa_nil)) pa_nil))) (fun _ _ => rfl)))), ?_⟩
    refine ⟨_, rfl, _, rfl, _, rfl, a, xs, rfl, ?_, h, c, _, rfl, hh, by omega, Int.lt_of_le_of_lt (show (xs.length : Int) ≤ 1000 by omega) (by decide), fun n H1 h0 h1 kh hh1 => ?_⟩
    · rcases hx with hx | hx
      · exact .inl hx.1
      · exact .inr hx
    · obtain ⟨j, rfl⟩ : ∃ j : Nat, n = (j : Int) := ⟨n.toNat, by omega⟩
      have hj : j < xs.length := by omega
      have hat : atI xs (j : Int) = some xs[j] := atI_nat (List.getElem?_eq_getElem hj)
      rcases hx with ⟨hx, hn⟩ | hx
      · refine .inl ⟨a, xs, _, _, rfl, rfl, ?_, hat, k _ _ (List.getElem_mem hj) kh hh1⟩
        rcases hx with (q | ⟨o, q⟩) | q
        · exact .inl (.inl (kh.st _ _ hn q))
        · exact .inl (.inr ⟨o, kh.st _ _ hn q⟩)
        · exact .inr q
      · exact .inr (.inl ⟨a, xs, _, _, rfl, rfl, kh.tup hx, hat, k _ _ (List.getElem_mem hj) kh hh1⟩)
end
end K13

/-! a for over a list or a tuple, as one -/
namespace Cm
open PySem L2 PySem.Spec PyProof.Rows
theorem for_seq {K : PySem.W.Frag} {tl : TE} {g : TG} {tb : TS} {D : Ends} {σ : L2.St} {H Hb : Hp} {a : Addr} {xs : List V} (ht : ∀ Q : VK, Q (.ref a) H → tl σ H Q) (ha : SqL K Hb a xs ∨ SqT K Hb a xs)
    (Pv : Nat → L2.St → Hp → Prop) (h0 : Pv 0 σ H) (hG : ∀ i σ H', Pv i σ H' → Same Hb H')
    (hs : ∀ i x σ H1, i < xs.length → Pv i σ H1 → xs[i]? = some x → g x σ H1 fun σ2 H2 => tb { D with nx := Pv (i + 1), ct := Pv (i + 1), bk := D.nx } σ2 H2) (hd : ∀ σ H1, Pv xs.length σ H1 → D.nx σ H1) :
    tFor (iSeq K tl) g tb D σ H := by
  refine ht _ ⟨a, rfl, ?_⟩
  rcases ha with ha | ha
  · refine .inl ⟨⟨_, (hG _ _ _ h0).seq ha⟩, for_it (walk_list (xs := xs)) Pv h0 (fun i σ H' hi z => (hG i σ H' z).seq ha) (fun i x σ H1 H2 hi z y => ?_) hd⟩
    obtain ⟨rfl, e⟩ := y
    exact hs i x σ _ hi z e
  · refine .inr ⟨⟨_, sqt_same (hG _ _ _ h0) ha⟩, for_it (walk_tup (xs := xs)) Pv h0 (fun i σ H' hi z => sqt_same (hG i σ H' z) ha) (fun i x σ H1 H2 hi z y => ?_) hd⟩
    obtain ⟨rfl, e⟩ := y
    exact hs i x σ _ hi z e
end Cm

/-! trees of forms: a head and its parts; how they lie in tuples -/
namespace Cm
open PySem L2 PySem.Spec PyProof.Rows
inductive Hd where
  | num (i : Int)
  | name (x : Str)
  | lit (w : Str)
  | one (w x : Str)
  | fn (xs : List Str)
  | bind (w : Str) (xs : List Str)
  | doo
  | call
  | op (o : Str)
  | plain (w : Str)
inductive Tr where
  | mk (h : Hd) (ps : List Tr)
def encs (xs : List Str) : PyData := .tuple (xs.map PyData.str)
def rowD (p : Str × PyData) : PyData := .tuple [.str p.1, p.2]
def encH : Hd → List PyData → PyData
  | .num i, _ => .tuple [.str "number", .int i]
  | .name x, _ => .tuple [.str "name", .str x]
  | .lit w, _ => .tuple [.str w]
  | .one w x, ds => .tuple (.str w :: .str x :: ds)
  | .fn xs, ds => .tuple (.str "fn" :: encs xs :: ds)
  | .bind w xs, ds => .tuple (.str w :: .tuple ((xs.zip ds).map rowD) :: ds.drop xs.length)
  | .doo, ds => .tuple [.str "do", .tuple ds]
  | .call, ds => .tuple (.str "call" :: (ds.take 1 ++ [.tuple (ds.drop 1)]))
  | .op o, ds => .tuple [.str "op", .str o, .tuple ds]
  | .plain w, ds => .tuple (.str w :: ds)
mutual
def Tr.enc : Tr → PyData
  | .mk h ps => encH h (Tr.encL ps)
def Tr.encL : List Tr → List PyData
  | [] => []
  | t :: ts => t.enc :: Tr.encL ts
end
mutual
def Tr.dep : Tr → Nat
  | .mk _ ps => Tr.deps ps + 1
def Tr.deps : List Tr → Nat
  | [] => 0
  | t :: ts => max t.dep (Tr.deps ts)
end
def litW : List Str := ["true", "false", "none", "ask"]
def oneW : List Str := ["set", "keep", "once", "take"]
def bindW : List Str := ["let", "rec"]
def plainW : List Str := ["if", "mark", "wind", "show"]
abbrev sok (x : Str) : Prop := PyData.strOk x = true
def hok : Hd → Nat → Prop
  | .num _, n => n = 0
  | .name x, n => n = 0 ∧ sok x
  | .lit w, n => n = 0 ∧ w ∈ litW
  | .one w x, n => n = 1 ∧ w ∈ oneW ∧ sok x
  | .fn xs, n => n = 1 ∧ xs.length ≤ 100 ∧ ∀ x ∈ xs, sok x
  | .bind w xs, n => n = xs.length + 1 ∧ w ∈ bindW ∧ ∀ x ∈ xs, sok x
  | .doo, _ => True
  | .call, n => 1 ≤ n
  | .op o, _ => sok o
  | .plain w, _ => w ∈ plainW
mutual
def Tr.ok : Tr → Prop
  | .mk h ps => hok h ps.length ∧ ps.length ≤ 11 ∧ Tr.oks ps
def Tr.oks : List Tr → Prop
  | [] => True
  | t :: ts => t.ok ∧ Tr.oks ts
end
theorem encL_map : ∀ ps : List Tr, Tr.encL ps = ps.map Tr.enc
  | [] => rfl
  | t :: ts => by
    show t.enc :: Tr.encL ts = _
    rw [encL_map ts]
    rfl
theorem encL_len (ps : List Tr) : (Tr.encL ps).length = ps.length := by rw [encL_map, List.length_map]
theorem deps_le {n : Nat} : ∀ {ps : List Tr}, Tr.deps ps ≤ n ↔ ∀ t ∈ ps, t.dep ≤ n
  | [] => by simp [Tr.deps]
  | t :: ts => by
    have := deps_le (n := n) (ps := ts)
    show max t.dep (Tr.deps ts) ≤ n ↔ _
    rw [Nat.max_le, this]
    simp
theorem oks_iff : ∀ {ps : List Tr}, Tr.oks ps ↔ ∀ t ∈ ps, t.ok
  | [] => by simp [Tr.oks]
  | t :: ts => by
    show t.ok ∧ Tr.oks ts ↔ _
    rw [oks_iff]
    simp
theorem dep_mk {h : Hd} {ps : List Tr} {n : Nat} : (Tr.mk h ps).dep ≤ n + 1 ↔ ∀ t ∈ ps, t.dep ≤ n := by
  show Tr.deps ps + 1 ≤ n + 1 ↔ _
  rw [← deps_le]
  omega
/-- trees by their depth -/
theorem tr_ind {P : Tr → Prop} (h : ∀ hd ps, (∀ t ∈ ps, P t) → P (.mk hd ps)) (t : Tr) : P t := by
  have key : ∀ n, ∀ t : Tr, t.dep ≤ n → P t := by
    intro n
    induction n with
    | zero =>
      intro t ht
      cases t with
      | mk hd ps => exact absurd ht (by show ¬ (Tr.deps ps + 1 ≤ 0); omega)
    | succ n ih =>
      intro t ht
      cases t with
      | mk hd ps => exact h hd ps fun t m => ih t (dep_mk.mp ht t m)
  exact key t.dep t (Nat.le_refl _)
theorem flat_strs (xs : List Str) : flatDs (xs.map PyData.str) = true := flatDs_of _ fun d hd => by
  obtain ⟨x, _, rfl⟩ := List.mem_map.mp hd
  rfl
theorem flat_encH {h : Hd} {ds : List PyData} (f : flatDs ds = true) : flatD (encH h ds) = true := by
  have fd := flatDs_all f
  cases h with
  | num i => rfl
  | name x => rfl
  | lit w => rfl
  | one w x => show flatDs (_ :: _ :: ds) = true; simpa [flatDs, flatD] using f
  | fn xs => show flatDs (_ :: encs xs :: ds) = true; simp [flatDs, flatD, encs, flat_strs, f]
  | bind w xs =>
    show flatDs (_ :: _ :: ds.drop xs.length) = true
    have h1 : flatDs (ds.drop xs.length) = true := flatDs_of _ fun d hd => fd d (List.mem_of_mem_drop hd)
    have h2 : flatDs ((xs.zip ds).map rowD) = true := flatDs_of _ fun d hd => by
      obtain ⟨p, hp, rfl⟩ := List.mem_map.mp hd
      have := fd p.2 (List.of_mem_zip (show (p.1, p.2) ∈ xs.zip ds from hp)).2
      simp [rowD, flatD, flatDs, this]
    simp [flatDs, flatD, h1, h2]
  | doo => show flatDs [_, .tuple ds] = true; simp [flatDs, flatD, f]
  | call =>
    show flatDs (_ :: (ds.take 1 ++ [.tuple (ds.drop 1)])) = true
    refine flatDs_of _ fun d hd => ?_
    rcases List.mem_cons.mp hd with rfl | hd
    · rfl
    rcases List.mem_append.mp hd with hd | hd
    · exact fd d (List.mem_of_mem_take hd)
    · cases List.mem_singleton.mp hd
      show flatDs (ds.drop 1) = true
      exact flatDs_of _ fun d hd => fd d (List.mem_of_mem_drop hd)
  | op o => show flatDs [_, _, .tuple ds] = true; simp [flatDs, flatD, f]
  | plain w => show flatDs (_ :: ds) = true; simpa [flatDs, flatD] using f
theorem flat_enc (t : Tr) : flatD t.enc = true := by
  refine tr_ind (P := fun t => flatD t.enc = true) (fun hd ps ih => ?_) t
  show flatD (encH hd (Tr.encL ps)) = true
  refine flat_encH (flatDs_of _ fun d hd => ?_)
  rw [encL_map] at hd
  obtain ⟨t, m, rfl⟩ := List.mem_map.mp hd
  exact ih t m
theorem flat_encL (ps : List Tr) : flatDs (Tr.encL ps) = true := flatDs_of _ fun d hd => by
  rw [encL_map] at hd
  obtain ⟨t, m, rfl⟩ := List.mem_map.mp hd
  exact flat_enc t
/-! ### that trees can be compared -/
theorem layAll_of : ∀ {ds : List PyData}, (∀ d ∈ ds, PyData.canLay0 d = true) → PyData.canLayAll0 ds = true
  | [], _ => rfl
  | d :: ds, h => by
    show (PyData.canLay0 d && PyData.canLayAll0 ds) = true
    rw [h d List.mem_cons_self, layAll_of fun x hx => h x (List.mem_cons_of_mem _ hx)]
    rfl
theorem depAll_le {n : Nat} : ∀ {ds : List PyData}, (∀ d ∈ ds, d.depth ≤ n) → PyData.depthAll ds ≤ n
  | [], _ => by simp [PyData.depthAll]
  | d :: ds, h => by
    have h1 := h d List.mem_cons_self
    have h2 := depAll_le (ds := ds) fun x hx => h x (List.mem_cons_of_mem _ hx)
    simp only [PyData.depthAll]
    omega
theorem lay_tup {ds : List PyData} (h : ∀ d ∈ ds, PyData.canLay0 d = true) : PyData.canLay0 (.tuple ds) = true := layAll_of h
theorem dep_tup {ds : List PyData} {n : Nat} (h : ∀ d ∈ ds, d.depth ≤ n) : PyData.depth (.tuple ds) ≤ n + 1 := by
  have := depAll_le h
  simp only [PyData.depth]
  omega
theorem dep0_str (x : Str) (n : Nat) : PyData.depth (.str x) ≤ n := by simp [PyData.depth]
theorem dep0_int (x : Int) (n : Nat) : PyData.depth (.int x) ≤ n := by simp [PyData.depth]
/-- a text that may stand in data, and how deep data is -/
structure Lay (n : Nat) (d : PyData) : Prop where
  lay : PyData.canLay0 d = true
  dep : d.depth ≤ n
theorem Lay.mono {n m : Nat} {d : PyData} (h : Lay n d) (k : n ≤ m) : Lay m d := ⟨h.lay, Nat.le_trans h.dep k⟩
theorem Lay.str {x : Str} (h : sok x) (n : Nat) : Lay n (.str x) := ⟨h, dep0_str x n⟩
theorem Lay.int (i : Int) (n : Nat) : Lay n (.int i) := ⟨rfl, dep0_int i n⟩
theorem Lay.tup {n : Nat} {ds : List PyData} (h : ∀ d ∈ ds, Lay n d) : Lay (n + 1) (.tuple ds) := ⟨lay_tup fun d m => (h d m).lay, dep_tup fun d m => (h d m).dep⟩
theorem Lay.lst {n : Nat} {ds : List PyData} (h : ∀ d ∈ ds, Lay n d) : Lay (n + 1) (.list ds) := by
  have h1 : PyData.canLay0 (.list ds) = true := layAll_of fun d m => (h d m).lay
  have h2 := depAll_le fun d m => (h d m).dep
  refine ⟨h1, ?_⟩
  simp only [PyData.depth]
  omega
theorem Lay.sh {n : Nat} {d : PyData} (h : Lay n d) (k : n ≤ 64) : SeqAt.shaped d = true := by
  unfold SeqAt.shaped
  rw [h.lay, decide_eq_true (Nat.le_trans h.dep k)]
  rfl
theorem words_sok : ∀ w ∈ litW ++ oneW ++ bindW ++ plainW, sok w := by
  intro w hw
  unfold litW oneW bindW plainW at hw
  simp only [List.cons_append, List.nil_append, List.mem_cons, List.not_mem_nil, or_false] at hw
  rcases hw with rfl | rfl | rfl | rfl | rfl | rfl | rfl | rfl | rfl | rfl | rfl | rfl | rfl | rfl <;> decide +kernel
theorem mem4 {α : Type} {P : α → Prop} {a b c d : α} (ha : P a) (hb : P b) (hc : P c) (hd : P d) : ∀ x ∈ [a, b, c, d], P x := by
  intro x hx
  simp only [List.mem_cons, List.not_mem_nil, or_false] at hx
  rcases hx with rfl | rfl | rfl | rfl <;> assumption
theorem lay_strs {xs : List Str} (h : ∀ x ∈ xs, sok x) (n : Nat) : Lay (n + 1) (encs xs) := Lay.tup fun d hd => by
  obtain ⟨x, m, rfl⟩ := List.mem_map.mp hd
  exact .str (h x m) n
theorem lay_encH {h : Hd} {ds : List PyData} {n : Nat} (o : hok h ds.length) (f : ∀ d ∈ ds, Lay n d) : Lay (n + 3) (encH h ds) := by
  have up : ∀ d ∈ ds, Lay (n + 2) d := fun d m => (f d m).mono (by omega)
  have hw : ∀ w, (w ∈ litW ∨ w ∈ oneW ∨ w ∈ bindW ∨ w ∈ plainW) → Lay (n + 2) (.str w) := fun w m => .str (words_sok w (by
    simp only [List.mem_append]
    rcases m with m | m | m | m
    · exact .inl (.inl (.inl m))
    · exact .inl (.inl (.inr m))
    · exact .inl (.inr m)
    · exact .inr m)) _
  have c : ∀ {d : PyData} {ds : List PyData}, Lay (n + 2) d → (∀ e ∈ ds, Lay (n + 2) e) → ∀ e ∈ d :: ds, Lay (n + 2) e := fun a b e m => by
    rcases List.mem_cons.mp m with rfl | m
    · exact a
    · exact b e m
  have nil : ∀ e ∈ ([] : List PyData), Lay (n + 2) e := fun e m => by cases m
  have S : ∀ w : Str, sok w → Lay (n + 2) (.str w) := fun w h => .str h _
  cases h with
  | num i => exact .tup (c (S "number" (by decide +kernel)) (c (.int i _) nil))
  | name x => exact .tup (c (S "name" (by decide +kernel)) (c (S x o.2) nil))
  | lit w => exact .tup (c (hw w (.inl o.2)) nil)
  | one w x => exact .tup (c (hw w (.inr (.inl o.2.1))) (c (S x o.2.2) up))
  | fn xs => exact .tup (c (S "fn" (by decide +kernel)) (c (lay_strs o.2.2 (n + 1)) up))
  | bind w xs =>
    refine .tup (c (hw w (.inr (.inr (.inl o.2.1)))) (c (Lay.tup fun d hd => ?_) fun d hd => up d (List.mem_of_mem_drop hd)))
    obtain ⟨p, hp, rfl⟩ := List.mem_map.mp hd
    have hz := List.of_mem_zip (show (p.1, p.2) ∈ xs.zip ds from hp)
    refine Lay.tup fun d hd => ?_
    simp only [List.mem_cons, List.not_mem_nil, or_false] at hd
    rcases hd with rfl | rfl
    · exact .str (o.2.2 _ hz.1) _
    · exact f _ hz.2
  | doo => exact .tup (c (S "do" (by decide +kernel)) (c (Lay.tup (fun d m => (f d m).mono (by omega))) nil))
  | call =>
    refine .tup (c (S "call" (by decide +kernel)) fun d hd => ?_)
    rcases List.mem_append.mp hd with hd | hd
    · exact up d (List.mem_of_mem_take hd)
    · cases List.mem_singleton.mp hd
      exact Lay.tup fun d m => (f d (List.mem_of_mem_drop m)).mono (by omega)
  | op o' => exact .tup (c (S "op" (by decide +kernel)) (c (S o' o) (c (Lay.tup (fun d m => (f d m).mono (by omega))) nil)))
  | plain w => exact .tup (c (hw w (.inr (.inr (.inr o)))) up)
theorem lay_enc : ∀ (n : Nat) (t : Tr), t.ok → t.dep ≤ n → Lay (3 * n) t.enc := by
  intro n
  induction n with
  | zero =>
    intro t _ h
    cases t with
    | mk hd ps => exact absurd h (by show ¬ (Tr.deps ps + 1 ≤ 0); omega)
  | succ n ih =>
    intro t o h
    cases t with
    | mk hd ps =>
      have o' : hok hd ps.length ∧ ps.length ≤ 11 ∧ Tr.oks ps := o
      have : Lay (3 * n + 3) (encH hd (Tr.encL ps)) := lay_encH (by rw [encL_len]; exact o'.1) fun d hd => by
        rw [encL_map] at hd
        obtain ⟨t, m, rfl⟩ := List.mem_map.mp hd
        exact ih t (oks_iff.mp o'.2.2 t m) (dep_mk.mp h t m)
      exact this
end Cm

/-! x in (written words); the items of a tree's tuple -/
namespace Cm
open PySem L2 PySem.Spec PyProof.Rows
/-- written texts -/
inductive StrEs : List Expr → List Str → Prop where
  | nil : StrEs [] []
  | cons {x : Str} {k : Nat} {p : Pos} {es : List Expr} {xs : List Str} (h : StrEs es xs) : StrEs (.Constant (.str x) k p :: es) (x :: xs)
def tVals (vs : List V) : TA := fun _ H Q => Q vs H
section
variable {X : Cx} {e : Expr} {te : TE} {es : List Expr} {ws : List Str} {pos p2 : Pos} {n : Nat}
theorem pa_strs (h : StrEs es ws) : PA X es (tVals (ws.map V.str)) := by
  induction h with
  | nil => exact ⟨fun pos pins s σ H Q I h => pa_nil.run pos pins s σ H Q I h⟩
  | @cons x k p es xs h ih =>
    refine ⟨fun pos pins s σ H Q I q => (pa_cons (te := tC (.str x)) pe_str ih (by rfl)).run pos pins s σ H Q I ?_⟩
    exact q
/-- x in ('a', 'b', ..) -/
def tInW (te : TE) (ws : List Str) : TT := fun σ H Q => te σ H fun x H1 => flatV x = true ∧ ∀ H2, Same H1 H2 → Q (inV x (ws.map V.str)) H2
theorem flat_strV (ws : List Str) : (ws.map V.str).all flatV = true := by
  rw [List.all_eq_true]
  intro x hx
  obtain ⟨w, _, rfl⟩ := List.mem_map.mp hx
  rfl
theorem pt_inW (ha : PE X e te) (he : StrEs es ws) (hl : ws.length ≤ sizeLine) (hm : behindInMarks .In (.Tuple es n p2) = false) : PT X (.Compare e [.In] [.Tuple es n p2] pos) (tInW te ws) := by
  refine ⟨fun pins s σ H Q I h => ?_⟩
  refine wpAny_isTrue_Compare1 (thn (ha.run pins s σ H _ I h) fun v s1 ⟨x, H1, I1, r1, fx, q1⟩ => thn ((pe_tup (pa_strs he)).run pins s1 σ H1 (fun y H2 => y ≠ .non ∧ ∃ p, y = .ref p ∧ H2 p = some (.tup (ws.map V.str)) ∧ Same H1 H2) I1 ?_) fun u s2 ⟨y, H2, I2, r2, _, p, ey, hp, s12⟩ =>
    thn (op_in_seq pins s2 σ H2 x y v u (fun z H3 => ∃ k, z = .bl k ∧ Q k H3) I2 r1 r2 ⟨p, _, ey, .inr (.inl (.inl hp)), fx, flat_strV ws, _, rfl, q1 H2 s12⟩) fun c s3 ⟨z, H3, I3, r3, k, e, q3⟩ => ?_) hm
  · refine ⟨by rw [List.length_map]; exact hl, fun p hp => ⟨(fun z => nomatch z), p, rfl, upd_same, same_new hp⟩⟩
  · subst e
    cases r3
    exact wpAny_truthy_bool ⟨H3, I3, q3⟩
end
/-- x in ('a', ..) as a value -/
def tInWV (te : TE) (ws : List Str) : TE := fun σ H Q => te σ H fun x H1 => flatV x = true ∧ ∀ H2, Same H1 H2 → Q (.bl (inV x (ws.map V.str))) H2
section
variable {X : Cx} {e : Expr} {te : TE} {es : List Expr} {ws : List Str} {pos p2 : Pos} {n : Nat}
theorem pe_inW (ha : PE X e te) (he : StrEs es ws) (hl : ws.length ≤ sizeLine) (hm : behindInMarks .In (.Tuple es n p2) = false) : PE X (.Compare e [.In] [.Tuple es n p2] pos) (tInWV te ws) := by
  refine ⟨fun pins s σ H Q I h => ?_⟩
  refine wpAny_Compare1 (thn (ha.run pins s σ H _ I h) fun v s1 ⟨x, H1, I1, r1, fx, q1⟩ => thn ((pe_tup (pa_strs he)).run pins s1 σ H1 (fun y H2 => ∃ p, y = .ref p ∧ H2 p = some (.tup (ws.map V.str)) ∧ Same H1 H2) I1 ?_) fun u s2 ⟨y, H2, I2, r2, p, ey, hp, s12⟩ =>
    op_in_seq pins s2 σ H2 x y v u Q I2 r1 r2 ⟨p, _, ey, .inr (.inl (.inl hp)), fx, flat_strV ws, q1 H2 s12⟩) hm
  exact ⟨by rw [List.length_map]; exact hl, fun p hp => ⟨p, rfl, upd_same, same_new hp⟩⟩
end
/-! ### the items of a tree's tuple -/
def wd : Hd → Str
  | .num _ => "number"
  | .name _ => "name"
  | .lit w => w
  | .one w _ => w
  | .fn _ => "fn"
  | .bind w _ => w
  | .doo => "do"
  | .call => "call"
  | .op _ => "op"
  | .plain w => w
def Items (K : PySem.W.Frag) (H : Hp) (ds : List PyData) : Hd → List V → Prop
  | .num i, its => its = [.str "number", .int i]
  | .name x, its => its = [.str "name", .str x]
  | .lit w, its => its = [.str w]
  | .one w x, its => ∃ vs, its = .str w :: .str x :: vs ∧ DpAll K H vs ds
  | .fn xs, its => ∃ q vs, its = .str "fn" :: .ref q :: vs ∧ SqT K H q (xs.map V.str) ∧ DpAll K H vs ds
  | .bind w xs, its => ∃ q rows vs, its = .str w :: .ref q :: vs ∧ SqT K H q rows ∧ DpAll K H rows ((xs.zip ds).map rowD) ∧ DpAll K H vs (ds.drop xs.length)
  | .doo, its => ∃ q vs, its = [.str "do", .ref q] ∧ SqT K H q vs ∧ DpAll K H vs ds
  | .call, its => ∃ q us vs, its = .str "call" :: (us ++ [.ref q]) ∧ DpAll K H us (ds.take 1) ∧ SqT K H q vs ∧ DpAll K H vs (ds.drop 1)
  | .op o, its => ∃ q vs, its = [.str "op", .str o, .ref q] ∧ SqT K H q vs ∧ DpAll K H vs ds
  | .plain w, its => ∃ vs, its = .str w :: vs ∧ DpAll K H vs ds
theorem dp_str {K : PySem.W.Frag} {H : Hp} {v : V} {x : Str} (h : Dp K H v (.str x)) : v = .str x := by cases h; rfl
theorem dp_int {K : PySem.W.Frag} {H : Hp} {v : V} {x : Int} (h : Dp K H v (.int x)) : v = .int x := by cases h; rfl
theorem dp_tup {K : PySem.W.Frag} {H : Hp} {v : V} {ds : List PyData} (h : Dp K H v (.tuple ds)) : ∃ a its, v = .ref a ∧ SqT K H a its ∧ DpAll K H its ds := by
  cases h with
  | @tup a its ds hs ha => exact ⟨a, its, rfl, hs, ha⟩
theorem dpAll_strs_inv {K : PySem.W.Frag} {H : Hp} : ∀ {xs : List Str} {vs : List V}, DpAll K H vs (xs.map PyData.str) → vs = xs.map V.str
  | [], _, h => by cases h; rfl
  | x :: xs, _, h => by
    cases h with
    | cons h1 h2 => rw [dp_str h1, dpAll_strs_inv h2]; rfl
theorem dpAll_strs {K : PySem.W.Frag} {H : Hp} : ∀ xs : List Str, DpAll K H (xs.map V.str) (xs.map PyData.str)
  | [] => .nil
  | x :: xs => .cons (.str x) (dpAll_strs xs)
theorem dpAll_split {K : PySem.W.Frag} {H : Hp} : ∀ {ds es : List PyData} {vs : List V}, DpAll K H vs (ds ++ es) → ∃ us ws, vs = us ++ ws ∧ DpAll K H us ds ∧ DpAll K H ws es
  | [], es, vs, h => ⟨[], vs, rfl, .nil, h⟩
  | d :: ds, es, vs, h => by
    cases h with
    | cons h1 h2 =>
      obtain ⟨us, ws, rfl, a, b⟩ := dpAll_split h2
      exact ⟨_ :: us, ws, rfl, .cons h1 a, b⟩
theorem view {K : PySem.W.Frag} {H : Hp} {v : V} {h : Hd} {ds : List PyData} (x : Dp K H v (encH h ds)) : ∃ a its, v = .ref a ∧ SqT K H a its ∧ Items K H ds h its := by
  cases h with
  | num i =>
    obtain ⟨a, its, rfl, hs, ha⟩ := dp_tup x
    cases ha with
    | cons h1 h2 => cases h2 with
      | cons h3 h4 =>
        cases h4
        exact ⟨a, _, rfl, hs, by rw [dp_str h1, dp_int h3]; rfl⟩
  | name i =>
    obtain ⟨a, its, rfl, hs, ha⟩ := dp_tup x
    cases ha with
    | cons h1 h2 => cases h2 with
      | cons h3 h4 =>
        cases h4
        exact ⟨a, _, rfl, hs, by rw [dp_str h1, dp_str h3]; rfl⟩
  | lit i =>
    obtain ⟨a, its, rfl, hs, ha⟩ := dp_tup x
    cases ha with
    | cons h1 h2 =>
      cases h2
      exact ⟨a, _, rfl, hs, by rw [dp_str h1]; rfl⟩
  | one w i =>
    obtain ⟨a, its, rfl, hs, ha⟩ := dp_tup x
    cases ha with
    | cons h1 h2 => cases h2 with
      | cons h3 h4 => exact ⟨a, _, rfl, hs, _, by rw [dp_str h1, dp_str h3], h4⟩
  | fn xs =>
    obtain ⟨a, its, rfl, hs, ha⟩ := dp_tup x
    cases ha with
    | cons h1 h2 => cases h2 with
      | cons h3 h4 =>
        obtain ⟨q, vs, rfl, hq, hv⟩ := dp_tup h3
        rw [dpAll_strs_inv hv] at hq
        exact ⟨a, _, rfl, hs, q, _, by rw [dp_str h1], hq, h4⟩
  | bind w xs =>
    obtain ⟨a, its, rfl, hs, ha⟩ := dp_tup x
    cases ha with
    | cons h1 h2 => cases h2 with
      | cons h3 h4 =>
        obtain ⟨q, vs, rfl, hq, hv⟩ := dp_tup h3
        exact ⟨a, _, rfl, hs, q, vs, _, by rw [dp_str h1], hq, hv, h4⟩
  | doo =>
    obtain ⟨a, its, rfl, hs, ha⟩ := dp_tup x
    cases ha with
    | cons h1 h2 => cases h2 with
      | cons h3 h4 =>
        cases h4
        obtain ⟨q, vs, rfl, hq, hv⟩ := dp_tup h3
        exact ⟨a, _, rfl, hs, q, vs, by rw [dp_str h1], hq, hv⟩
  | call =>
    obtain ⟨a, its, rfl, hs, ha⟩ := dp_tup x
    cases ha with
    | cons h1 h2 =>
      obtain ⟨us, ws, rfl, h3, h4⟩ := dpAll_split h2
      cases h4 with
      | cons h5 h6 =>
        cases h6
        obtain ⟨q, vs, rfl, hq, hv⟩ := dp_tup h5
        exact ⟨a, _, rfl, hs, q, us, vs, by rw [dp_str h1], h3, hq, hv⟩
  | op o =>
    obtain ⟨a, its, rfl, hs, ha⟩ := dp_tup x
    cases ha with
    | cons h1 h2 => cases h2 with
      | cons h3 h4 => cases h4 with
        | cons h5 h6 =>
          cases h6
          obtain ⟨q, vs, rfl, hq, hv⟩ := dp_tup h5
          exact ⟨a, _, rfl, hs, q, vs, by rw [dp_str h1, dp_str h3], hq, hv⟩
  | plain w =>
    obtain ⟨a, its, rfl, hs, ha⟩ := dp_tup x
    cases ha with
    | cons h1 h2 => exact ⟨a, _, rfl, hs, _, by rw [dp_str h1], h2⟩
theorem unview {K : PySem.W.Frag} {H : Hp} {a : Addr} {its : List V} {h : Hd} {ds : List PyData} (hs : SqT K H a its) (x : Items K H ds h its) : Dp K H (.ref a) (encH h ds) := by
  cases h with
  | num i => obtain rfl := (show its = _ from x); exact .tup hs (.cons (.str _) (.cons (.int _) .nil))
  | name i => obtain rfl := (show its = _ from x); exact .tup hs (.cons (.str _) (.cons (.str _) .nil))
  | lit i => obtain rfl := (show its = _ from x); exact .tup hs (.cons (.str _) .nil)
  | one w i => obtain ⟨vs, rfl, hv⟩ := x; exact .tup hs (.cons (.str _) (.cons (.str _) hv))
  | fn xs => obtain ⟨q, vs, rfl, hq, hv⟩ := x; exact .tup hs (.cons (.str _) (.cons (.tup hq (dpAll_strs xs)) hv))
  | bind w xs => obtain ⟨q, rows, vs, rfl, hq, hr, hv⟩ := x; exact .tup hs (.cons (.str _) (.cons (.tup hq hr) hv))
  | doo => obtain ⟨q, vs, rfl, hq, hv⟩ := x; exact .tup hs (.cons (.str _) (.cons (.tup hq hv) .nil))
  | call => obtain ⟨q, us, vs, rfl, hu, hq, hv⟩ := x; exact .tup hs (.cons (.str _) (DpAll.app hu (.cons (.tup hq hv) .nil)))
  | op o => obtain ⟨q, vs, rfl, hq, hv⟩ := x; exact .tup hs (.cons (.str _) (.cons (.str _) (.cons (.tup hq hv) .nil)))
  | plain w => obtain ⟨vs, rfl, hv⟩ := x; exact .tup hs (.cons (.str _) hv)
theorem Items.head {K : PySem.W.Frag} {H : Hp} {h : Hd} {ds : List PyData} {its : List V} (x : Items K H ds h its) : atI its 0 = some (.str (wd h)) := by
  refine atI_nat (j := 0) ?_
  cases h with
  | num i => obtain rfl := (show its = _ from x); rfl
  | name i => obtain rfl := (show its = _ from x); rfl
  | lit i => obtain rfl := (show its = _ from x); rfl
  | one w i => obtain ⟨vs, rfl, _⟩ := x; rfl
  | fn xs => obtain ⟨q, vs, rfl, _⟩ := x; rfl
  | bind w xs => obtain ⟨q, rows, vs, rfl, _⟩ := x; rfl
  | doo => obtain ⟨q, vs, rfl, _⟩ := x; rfl
  | call => obtain ⟨q, us, vs, rfl, _⟩ := x; rfl
  | op o => obtain ⟨q, vs, rfl, _⟩ := x; rfl
  | plain w => obtain ⟨vs, rfl, _⟩ := x; rfl
theorem Items.same {K : PySem.W.Frag} {H H' : Hp} {h : Hd} {ds : List PyData} {its : List V} (x : Items K H ds h its) (s : Same H H') : Items K H' ds h its := by
  cases h with
  | num i => exact x
  | name i => exact x
  | lit i => exact x
  | one w i => obtain ⟨vs, e, hv⟩ := x; exact ⟨vs, e, dps_same s _ _ hv⟩
  | fn xs => obtain ⟨q, vs, e, hq, hv⟩ := x; exact ⟨q, vs, e, sqt_same s hq, dps_same s _ _ hv⟩
  | bind w xs => obtain ⟨q, rows, vs, e, hq, hr, hv⟩ := x; exact ⟨q, rows, vs, e, sqt_same s hq, dps_same s _ _ hr, dps_same s _ _ hv⟩
  | doo => obtain ⟨q, vs, e, hq, hv⟩ := x; exact ⟨q, vs, e, sqt_same s hq, dps_same s _ _ hv⟩
  | call => obtain ⟨q, us, vs, e, hu, hq, hv⟩ := x; exact ⟨q, us, vs, e, dps_same s _ _ hu, sqt_same s hq, dps_same s _ _ hv⟩
  | op o => obtain ⟨q, vs, e, hq, hv⟩ := x; exact ⟨q, vs, e, sqt_same s hq, dps_same s _ _ hv⟩
  | plain w => obtain ⟨vs, e, hv⟩ := x; exact ⟨vs, e, dps_same s _ _ hv⟩
/-! ### what the word of a head is -/
def kd : Hd → Nat
  | .num _ => 0
  | .name _ => 1
  | .lit _ => 2
  | .one _ _ => 3
  | .fn _ => 4
  | .bind _ _ => 5
  | .doo => 6
  | .call => 7
  | .op _ => 8
  | .plain _ => 9
def wordsOf : Nat → List Str
  | 0 => ["number"]
  | 1 => ["name"]
  | 2 => litW
  | 3 => oneW
  | 4 => ["fn"]
  | 5 => bindW
  | 6 => ["do"]
  | 7 => ["call"]
  | 8 => ["op"]
  | _ => plainW
theorem wd_mem {h : Hd} {n : Nat} (o : hok h n) : kd h < 10 ∧ wd h ∈ wordsOf (kd h) := by
  cases h with
  | num i => exact ⟨Nat.le_of_ble_eq_true rfl, List.mem_singleton.mpr rfl⟩
  | name i => exact ⟨Nat.le_of_ble_eq_true rfl, List.mem_singleton.mpr rfl⟩
  | lit w => exact ⟨Nat.le_of_ble_eq_true rfl, o.2⟩
  | one w x => exact ⟨Nat.le_of_ble_eq_true rfl, o.2.1⟩
  | fn xs => exact ⟨Nat.le_of_ble_eq_true rfl, List.mem_singleton.mpr rfl⟩
  | bind w xs => exact ⟨Nat.le_of_ble_eq_true rfl, o.2.1⟩
  | doo => exact ⟨Nat.le_of_ble_eq_true rfl, List.mem_singleton.mpr rfl⟩
  | call => exact ⟨Nat.le_of_ble_eq_true rfl, List.mem_singleton.mpr rfl⟩
  | op i => exact ⟨Nat.le_of_ble_eq_true rfl, List.mem_singleton.mpr rfl⟩
  | plain w => exact ⟨Nat.le_of_ble_eq_true rfl, o⟩
/-- what is asked of the word alone -/
theorem by_kind (p : Str → Bool) (k : Nat → Bool) (hc : ∀ c < 10, ∀ w ∈ wordsOf c, p w = k c) {h : Hd} {n : Nat} (o : hok h n) : p (wd h) = k (kd h) :=
  hc _ (wd_mem o).1 _ (wd_mem o).2
def kF (h : Hd) : Bool := kd h == 3 || kd h == 4
def kB (h : Hd) : Bool := kd h == 5
def kP (h : Hd) : Bool := kd h == 9
def kL (h : Hd) : Bool := kd h < 3
def isDo (h : Hd) : Bool := kd h == 6
def isCall (h : Hd) : Bool := kd h == 7
def isOp (h : Hd) : Bool := kd h == 8
theorem in_words {ws : List Str} {x : Str} : inV (.str x) (ws.map V.str) = decide (x ∈ ws) := by
  induction ws with
  | nil => rfl
  | cons w ws ih =>
    show (eqV (V.str w) (V.str x) || inV (.str x) (ws.map V.str)) = _
    rw [ih]
    have e : eqV (V.str w) (V.str x) = decide (x = w) := by
      show (w == x) = _
      by_cases q : x = w
      · rw [q]; simp
      · have : ¬ w = x := fun z => q z.symm
        simp [q, this]
    rw [e]
    by_cases q : x = w <;> simp [q]
section
variable {h : Hd} {n : Nat}
theorem in_F (o : hok h n) : inV (.str (wd h)) ((["fn", "set", "keep", "once", "take"] : List Str).map V.str) = kF h :=
  by_kind (fun w => inV (.str w) ((["fn", "set", "keep", "once", "take"] : List Str).map V.str)) (fun k => k == 3 || k == 4) (by decide +kernel) o
theorem in_B (o : hok h n) : inV (.str (wd h)) ((["let", "rec"] : List Str).map V.str) = kB h :=
  by_kind (fun w => inV (.str w) ((["let", "rec"] : List Str).map V.str)) (fun k => k == 5) (by decide +kernel) o
theorem in_P (o : hok h n) : inV (.str (wd h)) ((["if", "mark", "wind", "show"] : List Str).map V.str) = kP h :=
  by_kind (fun w => inV (.str w) ((["if", "mark", "wind", "show"] : List Str).map V.str)) (fun k => k == 9) (by decide +kernel) o
theorem in_L (o : hok h n) : inV (.str (wd h)) ((["number", "true", "false", "none", "name", "ask"] : List Str).map V.str) = kL h :=
  by_kind (fun w => inV (.str w) ((["number", "true", "false", "none", "name", "ask"] : List Str).map V.str)) (fun k => k < 3) (by decide +kernel) o
theorem eq_do (o : hok h n) : decide (V.str (wd h) = V.str "do") = isDo h := by
  rw [decS]
  exact by_kind (fun w => decide (w = "do")) (fun k => k == 6) (by decide +kernel) o
theorem eq_call (o : hok h n) : decide (V.str (wd h) = V.str "call") = isCall h := by
  rw [decS]
  exact by_kind (fun w => decide (w = "call")) (fun k => k == 7) (by decide +kernel) o
theorem eq_op (o : hok h n) : decide (V.str (wd h) = V.str "op") = isOp h := by
  rw [decS]
  exact by_kind (fun w => decide (w = "op")) (fun k => k == 8) (by decide +kernel) o
end
end Cm

/-! slices and sums of tuples whichever object they are; rules with K said -/
namespace Cm
open PySem L2 PySem.Spec PyProof.Rows
theorem cut_from {xs : List V} {k : Nat} (h : k ≤ xs.length) : cutV xs (some (k : Int)) Option.none = xs.drop k := by
  unfold cutV
  rw [HT.sIx_nat, HT.sIx_none, Nat.min_eq_left h]
  exact List.take_of_length_le (by rw [List.length_drop]; omega)
theorem cut_to {xs : List V} {k : Nat} (h : k ≤ xs.length) : cutV xs Option.none (some (k : Int)) = xs.take k := by
  unfold cutV
  rw [HT.sIx_nat, HT.sIx_none, Nat.min_eq_left h, List.drop_zero, Nat.sub_zero]
/-- t[k:] of a tuple: whichever object it is -/
theorem sl_from {K : PySem.W.Frag} {a : Addr} {xs : List V} {k : Nat} {σ : L2.St} {H : Hp} {Q : VK} (hs : SqT K H a xs) (hk : k ≤ xs.length) (h : ∀ t H', Same H H' → SqT K H' t (xs.drop k) → Q (.ref t) H') :
    (tNoPart σ H fun u H1 => rSlA K (.ref a) (some (k : Int)) u H1 Q) := by
  refine ⟨a, xs, rfl, hs, fun q => ?_, fun _ p hp => ?_⟩
  · rw [HT.sIx_nat, Nat.min_eq_left hk] at q
    have : k = 0 := q.1
    subst this
    exact h a H (Same.refl H) hs
  · rw [cut_from hk]
    exact h p _ (same_new hp) (.inl (.inl upd_same))
theorem sl_to {K : PySem.W.Frag} {a : Addr} {xs : List V} {k : Nat} {H : Hp} {Q : VK} (hs : SqT K H a xs) (hk : k ≤ xs.length) (h : ∀ t H', Same H H' → SqT K H' t (xs.take k) → Q (.ref t) H') :
    rSlA K (.ref a) Option.none (some (k : Int)) H Q := by
  refine ⟨a, xs, rfl, hs, fun q => ?_, fun _ p hp => ?_⟩
  · rw [HT.sIx_nat, Nat.min_eq_left hk] at q
    have e : xs.take k = xs := List.take_of_length_le (by rw [q.2]; exact Nat.le_refl _)
    refine h a H (Same.refl H) ?_
    rw [e]
    exact hs
  · rw [cut_to hk]
    exact h p _ (same_new hp) (.inl (.inl upd_same))
theorem cat_any {K : PySem.W.Frag} {a b : Addr} {xs ys : List V} {H : Hp} {Q : VK} (ha : SqT K H a xs) (hb : SqT K H b ys) (hl : xs.length + ys.length ≤ sizeLine)
    (h : ∀ t H', Same H H' → SqT K H' t (xs ++ ys) → Q (.ref t) H') : rCatA K (.ref a) (.ref b) H Q := by
  refine ⟨a, b, xs, ys, rfl, rfl, ha, hb, hl, fun e => ?_, fun _ e => ?_, fun _ _ p hp => h p _ (same_new hp) (.inl (.inl upd_same))⟩
  · exact h b H (Same.refl H) (by rw [e]; exact hb)
  · exact h a H (Same.refl H) (by rw [e, List.append_nil]; exact ha)
theorem range_map {α β : Type} (f : α → β) (l : List α) : (List.range l.length).filterMap (fun i => (l[i]?).map f) = l.map f := by
  induction l with
  | nil => rfl
  | cons a l ih =>
    rw [List.length_cons, List.range_succ_eq_map, List.filterMap_cons]
    simp only [List.getElem?_cons_zero, Option.map_some, List.filterMap_map]
    rw [List.map_cons, ← ih]
    congr 1
theorem ke_tupleOf {X : Cx} {K : PySem.W.Frag} {a : Expr} {ta : TE} {p pos : Pos} (hg : Gl X "tuple") (hm : X.mg "tuple" = none) (ha : PE X a ta) (h : X.K = K := by rfl) (na : starEach [a] X.env = (false, eval a X.env) :: starEach [] X.env := by rfl) :
    PE X (.Call (.Name "tuple" p) [a] [] pos) (tThen ta (kTup K)) := by
  subst h
  exact pe_tupleOf hg hm ha na
theorem ne_same' {d : PyData} (h : SeqAt.shaped d = true) : (!PyData.eqv d d) = false := by
  rw [SeqAt.eqv_refl d (SeqAt.canLay_of_shaped h)]
  rfl
theorem kc_isi {X : Cx} {K : PySem.W.Frag} (h : X.K = K := by rfl) : CallR X (.builtin "isinstance") (rIsi K) := by subst h; exact call_isi
theorem one_of {α : Type} {xs : List α} (h : xs.length = 1) : ∃ x, xs = [x] := by
  cases xs with
  | nil => simp at h
  | cons a r =>
    cases r with
    | nil => exact ⟨a, rfl⟩
    | cons b r => simp at h
theorem dpAll_one {K : PySem.W.Frag} {H : Hp} {vs : List V} {d : PyData} (h : DpAll K H vs [d]) : ∃ v, vs = [v] ∧ Dp K H v d := by
  cases h with
  | cons h1 h2 =>
    cases h2
    exact ⟨_, rfl, h1⟩
theorem dps_cat {K : PySem.W.Frag} {H : Hp} {ds es : List PyData} {vs us : List V} (h1 : DpAll K H vs ds) (h2 : DpAll K H us es) : DpAll K H (vs ++ us) (ds ++ es) := DpAll.app h1 h2
theorem free_of {H H' : Hp} {p : Addr} (s : Same H H') (h : H' p = Option.none) : H p = Option.none := by
  cases e : H p with
  | none => rfl
  | some o =>
    have := s _ _ e
    rw [h] at this
    cases this
end Cm

namespace K13
open PySem L2 Cm
/-- the parts of a form, as a tuple -/
def spParts (K : PySem.W.Frag) : Sp := fun vs H Q _ => ∃ (v : V) (h : Hd) (ds : List PyData), vs = [v] ∧ Dp K H v (encH h ds) ∧ hok h ds.length ∧ flatDs ds = true ∧ ds.length ≤ 100 ∧
  ∀ (t : Addr) (us : List V) (H' : Hp), Same H H' → SqT K H' t us → DpAll K H' us ds → Q (.ref t) H'
section
variable {P : Program} {w : World} {K : PySem.W.Frag} {mg : Str → Option Value} {base : Heap}
abbrev s_p_parts_of : Stmt := top 1
abbrev N_p_parts_of : List Str := ["tree", "word", "_", "side"]
theorem sc_p_parts_of : FnScope N_p_parts_of ["tree"] (defScope s_p_parts_of) := ⟨rfl, rfl, rfl, by decide +kernel, rfl, by decide +kernel, by decide +kernel⟩
theorem ok_parts_of (T : Txt mg) (D : At K mg "parts_of" s_p_parts_of ["tree"]) : Cl P w K mg base 1 "parts_of" (spParts K) := by
  refine cl_of D sc_p_parts_of (fun vs H Q E h => ?_) fun f cdv A outer s H vs Q E hr h => ?_
  · obtain ⟨v, h, ds, rfl, _⟩ := h
    rfl
  · obtain ⟨v, h, ds, rfl, hd, o, fl, hlen, k⟩ := h
    obtain ⟨a, its, rfl, hs, hx⟩ := view hd
    refine ⟨_, (pss_cons (ps_set (i := 1) sc_p_parts_of.nd rfl (Or.inl rfl) (pe_ix ix_tup (pv 0) pe_int (fun _ _ => rfl)))
      (pss_cons (ps_if (pt_inW (pv 1) (.cons (.cons (.cons (.cons (.cons .nil))))) (show 5 ≤ sizeLine by decide) (by rfl))
        (pss_one (ps_ret (pe_tup (pa_cons (pe_ix ix_tup (pv 0) pe_int (fun _ _ => rfl)) pa_nil))))
        pss_nil)
      (pss_cons (ps_if (pt_inW (pv 1) (.cons (.cons .nil)) (show 2 ≤ sizeLine by decide) (by rfl))
        (pss_one (ps_ret (pe_op op_catA (pe_tupleOf (by rfl) T.tuple (pe_lc (own := [("_", 2), ("side", 3)]) (g := gTup K 2 (gCons (gName 2) (gCons (gName 3) gNil))) rfl sc_p_parts_of.nd (pi_tup (pe_ix ix_tup (pv 0) pe_int (fun _ _ => rfl))) (blkOk_by (N := N_p_parts_of) (sc := defScope s_p_parts_of) (by decide +kernel))
      (fun _ _ _ _ _ => (pg_tup rfl (pgs_cons (pg_name (i := 2) sc_p_parts_of.nd rfl (Or.inl rfl)) (pgs_cons (pg_name (i := 3) sc_p_parts_of.nd rfl (Or.inl rfl)) pgs_nil))))
      (fun _ _ _ _ _ => pts_nil)
      (fun _ _ _ _ _ => (pv 3)))) (pe_tup (pa_cons (pe_ix ix_tup (pv 0) pe_int (fun _ _ => rfl)) pa_nil)))))
        pss_nil)
      (pss_cons (ps_if (pt_cmpR op_eq (pv 1) pe_str (nomark _))
        (pss_one (ps_ret (pe_tupleOf (by rfl) T.tuple (pe_ix ix_tup (pv 0) pe_int (fun _ _ => rfl)))))
        pss_nil)
      (pss_cons (ps_if (pt_cmpR op_eq (pv 1) pe_str (nomark _))
        (pss_one (ps_ret (pe_op op_catA (pe_tup (pa_cons (pe_ix ix_tup (pv 0) pe_int (fun _ _ => rfl)) pa_nil)) (pe_tupleOf (by rfl) T.tuple (pe_ix ix_tup (pv 0) pe_int (fun _ _ => rfl))))))
        pss_nil)
      (pss_cons (ps_if (pt_cmpR op_eq (pv 1) pe_str (nomark _))
        (pss_one (ps_ret (pe_tupleOf (by rfl) T.tuple (pe_ix ix_tup (pv 0) pe_int (fun _ _ => rfl)))))
        pss_nil)
      (pss_cons (ps_if (pt_inW (pv 1) (.cons (.cons (.cons (.cons .nil)))) (show 4 ≤ sizeLine by decide) (by rfl))
        (pss_one (ps_ret (pe_tupleOf (by rfl) T.tuple (pe_slice sl_tupA (pv 0) (po_some pe_int) po_none))))
        pss_nil)
      (pss_one (ps_ret (pe_tup pa_nil)))))))))), ?_⟩
    have hhd := hx.head
    refine ⟨_, rfl, a, its, _, _, rfl, rfl, hs, hhd, ?_⟩
    refine ⟨_, rfl, rfl, fun H1 s1 => ?_⟩
    rw [in_F o]
    cases eF : kF h with
    | true =>
      refine iteT ?_
      have hx1 := hx.same s1
      have hs1 := sqt_same s1 hs
      obtain ⟨v2, d, rfl, e2, hv2⟩ : ∃ v2 d, ds = [d] ∧ atI its 2 = some v2 ∧ Dp K H1 v2 d := by
        cases h with
        | fn xs =>
          obtain ⟨d, rfl⟩ := one_of o.1
          obtain ⟨q, vs, rfl, _, hv⟩ := hx1
          obtain ⟨v, rfl, hv'⟩ := dpAll_one hv
          exact ⟨v, d, rfl, atI_nat (j := 2) rfl, hv'⟩
        | one w x =>
          obtain ⟨d, rfl⟩ := one_of o.1
          obtain ⟨vs, rfl, hv⟩ := hx1
          obtain ⟨v, rfl, hv'⟩ := dpAll_one hv
          exact ⟨v, d, rfl, atI_nat (j := 2) rfl, hv'⟩
        | _ => cases eF
      refine ⟨_, rfl, a, _, _, _, rfl, rfl, hs1, e2, by show 1 ≤ sizeLine; decide, fun q hq => ?_⟩
      exact k q _ _ (s1.trans (same_new hq)) (.inl (.inl upd_same)) (.cons (dp_same (same_new hq) _ _ hv2) .nil)
    | false =>
      refine iteF ?_
      refine ⟨_, rfl, rfl, fun H2 s2 => ?_⟩
      have S2 := s1.trans s2
      rw [in_B o]
      cases eB : kB h with
      | true =>
        refine iteT ?_
        have hx2 := hx.same S2
        have hs2 := sqt_same S2 hs
        cases h with
        | bind w xs =>
          obtain ⟨q, rows, vs, rfl, hq, hrows, hv⟩ := hx2
          have hdl : ds.length = xs.length + 1 := o.1
          have hrl : rows.length = xs.length := by
            have := DpAll.len hrows
            rw [List.length_map, List.length_zip] at this
            omega
          refine ⟨_, rfl, a, _, _, _, rfl, rfl, hs2, atI_nat (j := 1) rfl, q, rfl, ⟨_, hq⟩, fun L hL => ?_⟩
          refine lc_data (K := K) (walk_tup (xs := rows)) (fun i => ((ds.take xs.length)[i]?).map id) hL (by omega) (fun H' s => sqt_same s hq) (fun i _ d e => ?_) ?_ ?_
          · obtain ⟨d', e', rfl⟩ := Option.map_eq_some_iff.mp e
            exact flatDs_all fl _ (List.mem_of_mem_take (List.mem_of_getElem? e'))
          · rintro i x H3 H4 hi s3 ⟨rfl, e2⟩ Q1 Q0 q1 q0
            obtain ⟨d, g1, g2⟩ := DpAll.atV hrows e2
            obtain ⟨p, ep, rfl⟩ := map_at g1
            obtain ⟨r, its3, rfl, hr3, hi3⟩ := dp_tup (dp_same s3 _ _ g2)
            cases hi3 with
            | cons h1 h2 =>
              obtain ⟨v, rfl, h3⟩ := dpAll_one h2
              refine ⟨r, _, rfl, hr3, rfl, _, _, rfl, _, _, rfl, rfl, rfl, ?_⟩
              refine ⟨_, rfl, q1 _ _ p.2 ?_ (Same.refl _) h3⟩
              have := List.getElem?_zip_eq_some.mp ep
              rw [List.getElem?_take_of_lt (by omega), this.2]
              rfl
          · intro H3 acc s3 hacc ha3
            rw [show rows.length = (ds.take xs.length).length by rw [List.length_take]; omega, range_map, List.map_id] at ha3
            refine .inl ⟨L, _, rfl, .inl (.inl hacc), fun t3 ht3 => ?_⟩
            have s4 := same_new (o := .tup acc) ht3
            obtain ⟨dl, edl⟩ := one_of (show (ds.drop xs.length).length = 1 by rw [List.length_drop]; omega)
            rw [edl] at hv
            obtain ⟨vl, rfl, hvl⟩ := dpAll_one hv
            have s34 := s3.trans s4
            refine ⟨_, rfl, a, _, _, _, rfl, rfl, sqt_same s34 hs2, atI_nat (j := 2) rfl, by show 1 ≤ sizeLine; decide, fun t5 ht5 => ?_⟩
            have s5 := same_new (o := .tup [vl]) ht5
            have hl3 := DpAll.len ha3
            rw [List.length_take] at hl3
            refine cat_any (sqt_same s5 (.inl (.inl upd_same))) (.inl (.inl upd_same)) (Nat.le_trans (show acc.length + 1 ≤ 200 by omega) (by decide)) fun t6 H6 s6 ht6 => ?_
            refine k t6 _ H6 ((S2.trans s34).trans (s5.trans s6)) ht6 ?_
            have h7 : DpAll K H6 (acc ++ [vl]) (ds.take xs.length ++ [dl]) := DpAll.app (dps_same (s4.trans (s5.trans s6)) _ _ ha3) (.cons (dp_same (s34.trans (s5.trans s6)) _ _ hvl) .nil)
            rw [← edl, List.take_append_drop] at h7
            exact h7
        | _ => cases eB
      | false =>
        refine iteF ?_
        refine ⟨_, rfl, rfl, _, rfl, ?_⟩
        rw [eq_do o]
        cases eD : isDo h with
        | true =>
          refine iteT ?_
          have hx2 := hx.same S2
          cases h with
          | doo =>
            obtain ⟨q, vs, rfl, hq, hv⟩ := hx2
            refine ⟨_, rfl, a, _, _, _, rfl, rfl, sqt_same S2 hs, atI_nat (j := 1) rfl, .inr ⟨q, _, rfl, hq, ?_⟩⟩
            exact k q vs _ S2 hq hv
          | _ => cases eD
        | false =>
          refine iteF ?_
          refine ⟨_, rfl, rfl, _, rfl, ?_⟩
          rw [eq_call o]
          cases eC : isCall h with
          | true =>
            refine iteT ?_
            have hx2 := hx.same S2
            cases h with
            | call =>
              obtain ⟨q, us, vs, rfl, hu, hq, hv⟩ := hx2
              have hdl : 1 ≤ ds.length := o
              obtain ⟨d0, e0⟩ := one_of (show (ds.take 1).length = 1 by rw [List.length_take]; omega)
              rw [e0] at hu
              obtain ⟨u0, rfl, hu0⟩ := dpAll_one hu
              refine ⟨_, rfl, a, _, _, _, rfl, rfl, sqt_same S2 hs, atI_nat (j := 1) rfl, by show 1 ≤ sizeLine; decide, fun t3 ht3 => ?_⟩
              have s3 := same_new (o := .tup [u0]) ht3
              refine ⟨_, rfl, a, _, _, _, rfl, rfl, sqt_same (S2.trans s3) hs, atI_nat (j := 2) rfl, .inr ⟨q, _, rfl, sqt_same s3 hq, ?_⟩⟩
              have hvl := DpAll.len hv
              rw [List.length_drop] at hvl
              refine cat_any (.inl (.inl upd_same)) (sqt_same s3 hq) (Nat.le_trans (show 1 + vs.length ≤ 200 by omega) (by decide)) fun t4 H4 s4 ht4 => ?_
              refine k t4 _ H4 (S2.trans (s3.trans s4)) ht4 ?_
              have h7 : DpAll K H4 ([u0] ++ vs) ([d0] ++ ds.drop 1) := DpAll.app (.cons (dp_same (s3.trans s4) _ _ hu0) .nil) (dps_same (s3.trans s4) _ _ hv)
              rw [← e0, List.take_append_drop] at h7
              exact h7
            | _ => cases eC
          | false =>
            refine iteF ?_
            refine ⟨_, rfl, rfl, _, rfl, ?_⟩
            rw [eq_op o]
            cases eO : isOp h with
            | true =>
              refine iteT ?_
              have hx2 := hx.same S2
              cases h with
              | op o' =>
                obtain ⟨q, vs, rfl, hq, hv⟩ := hx2
                refine ⟨_, rfl, a, _, _, _, rfl, rfl, sqt_same S2 hs, atI_nat (j := 2) rfl, .inr ⟨q, _, rfl, hq, ?_⟩⟩
                exact k q vs _ S2 hq hv
              | _ => cases eO
            | false =>
              refine iteF ?_
              refine ⟨_, rfl, rfl, fun H3 s3 => ?_⟩
              have S3 := S2.trans s3
              rw [in_P o]
              cases eP : kP h with
              | true =>
                refine iteT ?_
                have hx3 := hx.same S3
                cases h with
                | plain w =>
                  obtain ⟨vs, rfl, hv⟩ := hx3
                  refine ⟨_, rfl, 1, rfl, ?_⟩
                  refine sl_from (k := 1) (sqt_same S3 hs) (by rw [List.length_cons]; omega) fun t4 H4 s4 ht4 => ?_
                  refine .inr ⟨t4, _, rfl, ht4, ?_⟩
                  exact k t4 vs _ (S3.trans s4) ht4 (dps_same s4 _ _ hv)
                | _ => cases eP
              | false =>
                refine iteF ?_
                refine ⟨by show 0 ≤ sizeLine; decide, fun t4 ht4 => ?_⟩
                have e0 : ds = [] := by
                  cases h with
                  | num i => exact List.length_eq_zero_iff.mp o
                  | name i => exact List.length_eq_zero_iff.mp o.1
                  | lit i => exact List.length_eq_zero_iff.mp o.1
                  | one _ _ => cases eF
                  | fn _ => cases eF
                  | bind _ _ => cases eB
                  | doo => cases eD
                  | call => cases eC
                  | op _ => cases eO
                  | plain _ => cases eP
                subst e0
                exact k t4 [] _ (S3.trans (same_new ht4)) (.inl (.inl upd_same)) .nil
end
end K13

/-! paths of trees -/
namespace Cm
open PySem L2 PySem.Spec PyProof.Rows
def Tr.hd : Tr → Hd
  | .mk h _ => h
def Tr.ps : Tr → List Tr
  | .mk _ ps => ps
def Tr.at : List Int → Tr → Option Tr
  | [], t => some t
  | i :: r, .mk _ ps => if 0 ≤ i then (ps[i.toNat]?).bind (Tr.at r) else none
def Tr.put : List Int → Tr → Tr → Tr
  | [], _, o => o
  | i :: r, .mk h ps, o => match ps[i.toNat]? with
    | some p => .mk h (ps.set i.toNat (Tr.put r p o))
    | none => .mk h ps
mutual
def Tr.paths : Tr → List (List Int)
  | .mk _ ps => [] :: Tr.pathsL 0 ps
def Tr.pathsL : Nat → List Tr → List (List Int)
  | _, [] => []
  | i, t :: ts => t.paths.map (fun p => ((i : Nat) : Int) :: p) ++ Tr.pathsL (i + 1) ts
end
mutual
def Tr.size : Tr → Nat
  | .mk _ ps => Tr.sizes ps + 1
def Tr.sizes : List Tr → Nat
  | [] => 0
  | t :: ts => t.size + Tr.sizes ts
end
theorem at_snoc : ∀ (p : List Int) (i : Int) (t : Tr), Tr.at (p ++ [i]) t = (Tr.at p t).bind (Tr.at [i])
  | [], i, t => rfl
  | j :: r, i, .mk h ps => by
    show (if 0 ≤ j then (ps[j.toNat]?).bind (Tr.at (r ++ [i])) else none) = ((if 0 ≤ j then (ps[j.toNat]?).bind (Tr.at r) else none) : Option Tr).bind (Tr.at [i])
    by_cases q : 0 ≤ j
    · rw [if_pos q, if_pos q]
      cases ps[j.toNat]? with
      | none => rfl
      | some p => exact at_snoc r i p
    · rw [if_neg q, if_neg q]
      rfl
theorem at_one {i : Nat} {h : Hd} {ps : List Tr} : Tr.at [((i : Nat) : Int)] (.mk h ps) = ps[i]? := by
  show (if 0 ≤ ((i : Nat) : Int) then (ps[((i : Nat) : Int).toNat]?).bind (Tr.at []) else none) = _
  rw [if_pos (by omega), Int.toNat_natCast]
  cases ps[i]? <;> rfl
theorem at_ok : ∀ (p : List Int) {t s : Tr}, t.ok → Tr.at p t = some s → s.ok
  | [], t, s, o, e => by cases e; exact o
  | i :: r, .mk h ps, s, o, e => by
    have e' : (if 0 ≤ i then (ps[i.toNat]?).bind (Tr.at r) else none) = some s := e
    by_cases q : 0 ≤ i
    · rw [if_pos q] at e'
      cases hp : ps[i.toNat]? with
      | none => rw [hp] at e'; cases e'
      | some p =>
        rw [hp] at e'
        have o' : hok h ps.length ∧ ps.length ≤ 11 ∧ Tr.oks ps := o
        exact at_ok r (oks_iff.mp o'.2.2 p (List.mem_of_getElem? hp)) e'
    · rw [if_neg q] at e'
      cases e'
theorem at_dep : ∀ (p : List Int) {t s : Tr}, Tr.at p t = some s → s.dep + p.length ≤ t.dep
  | [], t, s, e => by cases e; exact Nat.le_refl _
  | i :: r, .mk h ps, s, e => by
    have e' : (if 0 ≤ i then (ps[i.toNat]?).bind (Tr.at r) else none) = some s := e
    by_cases q : 0 ≤ i
    · rw [if_pos q] at e'
      cases hp : ps[i.toNat]? with
      | none => rw [hp] at e'; cases e'
      | some p =>
        rw [hp] at e'
        have h1 := at_dep r (t := p) e'
        have h2 := deps_le.mp (Nat.le_refl (Tr.deps ps)) p (List.mem_of_getElem? hp)
        show s.dep + (r.length + 1) ≤ Tr.deps ps + 1
        omega
    · rw [if_neg q] at e'
      cases e'
theorem pathsL_snoc (t : Tr) : ∀ (ts : List Tr) (i : Nat), Tr.pathsL i (ts ++ [t]) = Tr.pathsL i ts ++ t.paths.map (fun p => (((i + ts.length : Nat)) : Int) :: p)
  | [], i => by
    show t.paths.map _ ++ [] = [] ++ _
    simp
  | a :: ts, i => by
    show a.paths.map _ ++ Tr.pathsL (i + 1) (ts ++ [t]) = (a.paths.map _ ++ Tr.pathsL (i + 1) ts) ++ _
    rw [pathsL_snoc t ts (i + 1), List.append_assoc, List.length_cons, show i + 1 + ts.length = i + (ts.length + 1) by omega]
mutual
theorem paths_len : ∀ t : Tr, t.paths.length = t.size
  | .mk h ps => by
    show (Tr.pathsL 0 ps).length + 1 = Tr.sizes ps + 1
    rw [pathsL_len 0 ps]
theorem pathsL_len : ∀ (i : Nat) (ts : List Tr), (Tr.pathsL i ts).length = Tr.sizes ts
  | _, [] => rfl
  | i, t :: ts => by
    show (t.paths.map _ ++ Tr.pathsL (i + 1) ts).length = t.size + Tr.sizes ts
    rw [List.length_append, List.length_map, paths_len t, pathsL_len (i + 1) ts]
end
theorem pathsL_mem {q : List Int} : ∀ (ts : List Tr) (i : Nat), q ∈ Tr.pathsL i ts → ∃ (j : Nat) (t : Tr) (p : List Int), ts[j]? = some t ∧ p ∈ t.paths ∧ q = ((i + j : Nat) : Int) :: p
  | [], i, m => by cases m
  | a :: ts, i, m => by
    have m' : q ∈ a.paths.map (fun p => ((i : Nat) : Int) :: p) ++ Tr.pathsL (i + 1) ts := m
    rcases List.mem_append.mp m' with m | m
    · obtain ⟨p, hp, rfl⟩ := List.mem_map.mp m
      exact ⟨0, a, p, rfl, hp, rfl⟩
    · obtain ⟨j, t, p, e1, e2, e3⟩ := pathsL_mem ts (i + 1) m
      exact ⟨j + 1, t, p, by simpa using e1, e2, by rw [e3]; congr 2; omega⟩
theorem paths_at : ∀ (n : Nat) (t : Tr), t.dep ≤ n → ∀ p ∈ t.paths, ∃ s, Tr.at p t = some s := by
  intro n
  induction n with
  | zero =>
    intro t h
    cases t with
    | mk hd ps => exact absurd h (by show ¬ (Tr.deps ps + 1 ≤ 0); omega)
  | succ n ih =>
    intro t h p hp
    cases t with
    | mk hd ps =>
      have hp' : p ∈ ([] : List Int) :: Tr.pathsL 0 ps := hp
      rcases List.mem_cons.mp hp' with rfl | hp'
      · exact ⟨_, rfl⟩
      · obtain ⟨j, t, q, e1, e2, rfl⟩ := pathsL_mem ps 0 hp'
        obtain ⟨s, es⟩ := ih t (dep_mk.mp h t (List.mem_of_getElem? e1)) q e2
        refine ⟨s, ?_⟩
        show (if 0 ≤ ((0 + j : Nat) : Int) then (ps[((0 + j : Nat) : Int).toNat]?).bind (Tr.at q) else none) = some s
        rw [if_pos (by omega), Nat.zero_add, Int.toNat_natCast, e1]
        exact es
theorem paths_size : ∀ (n : Nat) (t : Tr), t.dep ≤ n → ∀ p ∈ t.paths, p.length < t.dep := by
  intro n t h p hp
  obtain ⟨s, es⟩ := paths_at n t h p hp
  have := at_dep p es
  have : 1 ≤ s.dep := by cases s with | mk hd ps => show 1 ≤ Tr.deps ps + 1; omega
  omega
def pathI (x : List Int) : PyData := .tuple (x.map PyData.int)
theorem flat_pathI (xs : List (List Int)) : flatDs (xs.map pathI) = true := flatDs_of _ fun d hd => by
  obtain ⟨x, _, rfl⟩ := List.mem_map.mp hd
  exact flatDs_ints x
theorem dp_pathI {K : PySem.W.Frag} {H : Hp} {t : Addr} {x : List Int} (h : SqT K H t (x.map V.int)) : Dp K H (.ref t) (pathI x) := .tup h (dpAll_ints x)
theorem dpAll_ints_inv {K : PySem.W.Frag} {H : Hp} : ∀ {x : List Int} {vs : List V}, DpAll K H vs (x.map PyData.int) → vs = x.map V.int
  | [], _, h => by cases h; rfl
  | i :: x, _, h => by
    cases h with
    | cons h1 h2 => rw [dp_int h1, dpAll_ints_inv h2]; rfl
theorem pathI_inv {K : PySem.W.Frag} {H : Hp} {v : V} {x : List Int} (h : Dp K H v (pathI x)) : ∃ t, v = .ref t ∧ SqT K H t (x.map V.int) := by
  obtain ⟨a, its, rfl, hs, ha⟩ := dp_tup h
  rw [dpAll_ints_inv ha] at hs
  exact ⟨a, rfl, hs⟩
end Cm

/-! keep forms of trees; once in their place -/
namespace Cm
open PySem L2 PySem.Spec PyProof.Rows
def isKeep : Hd → Bool
  | .one w _ => decide (w = "keep")
  | _ => false
theorem eq_keep {h : Hd} {n : Nat} (o : hok h n) : decide (V.str (wd h) = V.str "keep") = isKeep h := by
  have other : kd h ≠ 3 → decide (wd h = "keep") = false := fun q => by
    have key : ∀ c < 10, c ≠ 3 → ∀ w ∈ wordsOf c, decide (w = ("keep" : Str)) = false := by decide +kernel
    exact key _ (wd_mem o).1 q _ (wd_mem o).2
  rw [decS]
  cases h with
  | one w x => rfl
  | num i => exact other (Nat.ne_of_beq_eq_false rfl)
  | name i => exact other (Nat.ne_of_beq_eq_false rfl)
  | lit i => exact other (Nat.ne_of_beq_eq_false rfl)
  | fn i => exact other (Nat.ne_of_beq_eq_false rfl)
  | bind i _ => exact other (Nat.ne_of_beq_eq_false rfl)
  | doo => exact other (Nat.ne_of_beq_eq_false rfl)
  | call => exact other (Nat.ne_of_beq_eq_false rfl)
  | op i => exact other (Nat.ne_of_beq_eq_false rfl)
  | plain i => exact other (Nat.ne_of_beq_eq_false rfl)
def keepAt (t : Tr) (p : List Int) : Bool := match Tr.at p t with
  | some s => isKeep s.hd
  | none => false
def keepPaths (t : Tr) : List (List Int) := t.paths.filter (keepAt t)
def keepL : Nat → List Tr → List (List Int)
  | _, [] => []
  | i, t :: ts => (keepPaths t).map (fun p => ((i : Nat) : Int) :: p) ++ keepL (i + 1) ts
theorem keepAt_cons {h : Hd} {ps : List Tr} {j : Nat} {t : Tr} (e : ps[j]? = some t) (p : List Int) : keepAt (.mk h ps) (((j : Nat) : Int) :: p) = keepAt t p := by
  unfold keepAt
  show (match (if 0 ≤ ((j : Nat) : Int) then (ps[((j : Nat) : Int).toNat]?).bind (Tr.at p) else none : Option Tr) with | some s => isKeep s.hd | none => false) = _
  rw [if_pos (by omega), Int.toNat_natCast, e]
  rfl
theorem filter_pathsL (h : Hd) : ∀ (ts pre : List Tr), (Tr.pathsL pre.length ts).filter (keepAt (.mk h (pre ++ ts))) = keepL pre.length ts
  | [], pre => rfl
  | t :: ts, pre => by
    show (t.paths.map (fun p => ((pre.length : Nat) : Int) :: p) ++ Tr.pathsL (pre.length + 1) ts).filter _ = (keepPaths t).map _ ++ keepL (pre.length + 1) ts
    have ih := filter_pathsL h ts (pre ++ [t])
    rw [List.length_append, List.length_singleton, List.append_assoc] at ih
    rw [List.filter_append]
    have e2 : pre ++ t :: ts = pre ++ ([t] ++ ts) := rfl
    rw [e2, ih]
    congr 1
    rw [List.filter_map]
    congr 1
    unfold keepPaths
    refine List.filter_congr fun p _ => ?_
    show keepAt (.mk h (pre ++ ([t] ++ ts))) (((pre.length : Nat) : Int) :: p) = keepAt t p
    exact keepAt_cons (by rw [List.getElem?_append_right (Nat.le_refl _), Nat.sub_self]; rfl) p
theorem keepPaths_mk (h : Hd) (ps : List Tr) : keepPaths (.mk h ps) = (if isKeep h = true then [[]] else []) ++ keepL 0 ps := by
  unfold keepPaths
  show (([] : List Int) :: Tr.pathsL 0 ps).filter (keepAt (.mk h ps)) = _
  have e := filter_pathsL h ps []
  simp only [List.nil_append, List.length_nil] at e
  rw [List.filter_cons, e]
  show (if isKeep h = true then _ else _) = _
  by_cases q : isKeep h = true
  · rw [if_pos q, if_pos q]; rfl
  · rw [if_neg q, if_neg q]; rfl
theorem keepL_snoc (t : Tr) : ∀ (ts : List Tr) (i : Nat), keepL i (ts ++ [t]) = keepL i ts ++ (keepPaths t).map (fun p => (((i + ts.length : Nat)) : Int) :: p)
  | [], i => by
    show (keepPaths t).map _ ++ [] = [] ++ _
    simp
  | a :: ts, i => by
    show (keepPaths a).map _ ++ keepL (i + 1) (ts ++ [t]) = ((keepPaths a).map _ ++ keepL (i + 1) ts) ++ _
    rw [keepL_snoc t ts (i + 1), List.append_assoc, List.length_cons, show i + 1 + ts.length = i + (ts.length + 1) by omega]
theorem keepL_le : ∀ (ts : List Tr) (i : Nat), (keepL i ts).length ≤ Tr.sizes ts
  | [], i => Nat.le_refl _
  | t :: ts, i => by
    have := keepL_le ts (i + 1)
    have h1 : (keepPaths t).length ≤ t.size := by rw [← paths_len]; exact List.length_filter_le ..
    show ((keepPaths t).map _ ++ keepL (i + 1) ts).length ≤ t.size + Tr.sizes ts
    rw [List.length_append, List.length_map]
    omega
/-! ### once in the place of keep at the paths of S -/
def reword (b : Bool) : Hd → Hd
  | .one w x => if b = true ∧ w = "keep" then .one "once" x else .one w x
  | h => h
mutual
def Tr.rw (S : List (List Int)) (pre : List Int) : Tr → Tr
  | .mk h ps => .mk (reword (decide (pre ∈ S)) h) (Tr.rwL S pre 0 ps)
def Tr.rwL (S : List (List Int)) (pre : List Int) : Nat → List Tr → List Tr
  | _, [] => []
  | i, t :: ts => Tr.rw S (pre ++ [((i : Nat) : Int)]) t :: Tr.rwL S pre (i + 1) ts
end
theorem rwL_len (S : List (List Int)) (pre : List Int) : ∀ (ts : List Tr) (i : Nat), (Tr.rwL S pre i ts).length = ts.length
  | [], _ => rfl
  | t :: ts, i => by
    show (Tr.rwL S pre (i + 1) ts).length + 1 = ts.length + 1
    rw [rwL_len S pre ts (i + 1)]
theorem rwL_at (S : List (List Int)) (pre : List Int) : ∀ (ts : List Tr) (i j : Nat), (Tr.rwL S pre i ts)[j]? = (ts[j]?).map (Tr.rw S (pre ++ [((i + j : Nat) : Int)]))
  | [], _, _ => rfl
  | t :: ts, i, 0 => rfl
  | t :: ts, i, j + 1 => by
    show (Tr.rwL S pre (i + 1) ts)[j]? = (ts[j]?).map _
    rw [rwL_at S pre ts (i + 1) j, show i + 1 + j = i + (j + 1) by omega]
theorem rwL_eq {S R : List (List Int)} {pre : List Int} : ∀ (ts : List Tr) (i : Nat), (∀ j t, ts[j]? = some t → Tr.rw S (pre ++ [((i + j : Nat) : Int)]) t = Tr.rw R (pre ++ [((i + j : Nat) : Int)]) t) → Tr.rwL S pre i ts = Tr.rwL R pre i ts
  | [], _, _ => rfl
  | t :: ts, i, h => by
    show Tr.rw S _ t :: Tr.rwL S pre (i + 1) ts = Tr.rw R _ t :: Tr.rwL R pre (i + 1) ts
    have h0 := h 0 t rfl
    rw [Nat.add_zero] at h0
    have h1 := rwL_eq (S := S) (R := R) (pre := pre) ts (i + 1) fun j t e => by
      have := h (j + 1) t (by simpa using e)
      rw [show i + 1 + j = i + (j + 1) by omega]
      exact this
    rw [h0, h1]
/-- a path that does not begin so changes nothing -/
theorem rw_irrel {S : List (List Int)} {q : List Int} (t : Tr) : ∀ (pre : List Int), (∀ r, q ≠ pre ++ r) → Tr.rw (S ++ [q]) pre t = Tr.rw S pre t := by
  refine tr_ind (P := fun t => ∀ (pre : List Int), (∀ r, q ≠ pre ++ r) → Tr.rw (S ++ [q]) pre t = Tr.rw S pre t) (fun h ps ih pre hq => ?_) t
  show Tr.mk (reword (decide (pre ∈ S ++ [q])) h) (Tr.rwL (S ++ [q]) pre 0 ps) = Tr.mk (reword (decide (pre ∈ S)) h) (Tr.rwL S pre 0 ps)
  have e1 : decide (pre ∈ S ++ [q]) = decide (pre ∈ S) := by
    have n : pre ≠ q := fun e => hq [] (by rw [e, List.append_nil])
    simp [n]
  rw [e1, rwL_eq ps 0 fun j t e => ih t (List.mem_of_getElem? e) _ fun r z => hq ([((0 + j : Nat) : Int)] ++ r) (by rw [z, List.append_assoc])]
theorem put_rw {S : List (List Int)} : ∀ (p pre : List Int) (t : Tr) (x : Str) (b : Tr), Tr.at p t = some (.mk (.one "keep" x) [b]) →
    ∃ w b', Tr.at p (Tr.rw S pre t) = some (.mk (.one w x) [b']) ∧ Tr.put p (Tr.rw S pre t) (.mk (.one "once" x) [b']) = Tr.rw (S ++ [pre ++ p]) pre t
  | [], pre, t, x, b, e => by
    cases e
    have e2 : Tr.rw (S ++ [pre ++ []]) pre (.mk (.one "keep" x) [b]) = .mk (.one "once" x) [Tr.rw S (pre ++ [((0 : Nat) : Int)]) b] := by
      show Tr.mk (reword (decide (pre ∈ S ++ [pre ++ []])) (.one "keep" x)) [Tr.rw (S ++ [pre ++ []]) (pre ++ [((0 : Nat) : Int)]) b] = _
      rw [List.append_nil, rw_irrel b (pre ++ [((0 : Nat) : Int)]) fun r z => by
        have := congrArg List.length z
        simp at this]
      simp [reword]
    have e3 : ∃ w, reword (decide (pre ∈ S)) (.one "keep" x) = .one w x := by
      show ∃ w, (if decide (pre ∈ S) = true ∧ ("keep" : Str) = "keep" then Hd.one "once" x else Hd.one "keep" x) = .one w x
      split
      · exact ⟨_, rfl⟩
      · exact ⟨_, rfl⟩
    obtain ⟨w, e3⟩ := e3
    refine ⟨w, Tr.rw S (pre ++ [((0 : Nat) : Int)]) b, ?_, ?_⟩
    · show some (Tr.mk (reword (decide (pre ∈ S)) (.one "keep" x)) [Tr.rw S (pre ++ [((0 : Nat) : Int)]) b]) = _
      rw [e3]
    · rw [e2]
      rfl
  | i :: r, pre, .mk h ps, x, b, e => by
    have e' : (if 0 ≤ i then (ps[i.toNat]?).bind (Tr.at r) else none) = some (.mk (.one "keep" x) [b]) := e
    have h0 : 0 ≤ i := by
      by_cases q : 0 ≤ i
      · exact q
      · rw [if_neg q] at e'
        cases e'
    obtain ⟨m, rfl⟩ : ∃ m : Nat, i = (m : Int) := ⟨i.toNat, by omega⟩
    rw [if_pos h0, Int.toNat_natCast] at e'
    cases ec : ps[m]? with
    | none => rw [ec] at e'; cases e'
    | some c =>
      rw [ec] at e'
      obtain ⟨w, b', g1, g2⟩ := put_rw r (pre ++ [(m : Int)]) c x b e'
      have er : (Tr.rwL S pre 0 ps)[m]? = some (Tr.rw S (pre ++ [(m : Int)]) c) := by rw [rwL_at, ec, Nat.zero_add]; rfl
      refine ⟨w, b', ?_, ?_⟩
      · show (if 0 ≤ (m : Int) then ((Tr.rwL S pre 0 ps)[(m : Int).toNat]?).bind (Tr.at r) else none) = _
        rw [if_pos h0, Int.toNat_natCast, er]
        exact g1
      · show (match (Tr.rwL S pre 0 ps)[(m : Int).toNat]? with | some p => Tr.mk (reword (decide (pre ∈ S)) h) ((Tr.rwL S pre 0 ps).set (m : Int).toNat (Tr.put r p _)) | none => _) = _
        rw [Int.toNat_natCast, er]
        show Tr.mk (reword (decide (pre ∈ S)) h) ((Tr.rwL S pre 0 ps).set m (Tr.put r (Tr.rw S (pre ++ [(m : Int)]) c) (.mk (.one "once" x) [b']))) = Tr.mk (reword (decide (pre ∈ S ++ [pre ++ (m : Int) :: r])) h) (Tr.rwL (S ++ [pre ++ (m : Int) :: r]) pre 0 ps)
        rw [g2]
        have e1 : decide (pre ∈ S ++ [pre ++ (m : Int) :: r]) = decide (pre ∈ S) := by
          have n : pre ≠ pre ++ (m : Int) :: r := fun e => by
            have := congrArg List.length e
            simp at this
          simp [n]
        rw [e1]
        congr 1
        have hm : m < ps.length := (List.getElem?_eq_some_iff.mp ec).1
        refine List.ext_getElem? fun j => ?_
        rw [rwL_at]
        by_cases q : j = m
        · subst q
          rw [List.getElem?_set_self (by rw [rwL_len]; exact hm), ec, Nat.zero_add, List.append_assoc]
          rfl
        · rw [List.getElem?_set_ne (Ne.symm q), rwL_at]
          cases ej : ps[j]? with
          | none => rfl
          | some d =>
            show some _ = some _
            rw [rw_irrel d (pre ++ [((0 + j : Nat) : Int)]) fun r' z => q ?_]
            rw [List.append_assoc] at z
            have z2 := List.append_cancel_left z
            simp at z2
            omega
end Cm

/-! paths as data: equality, being in a list -/
namespace Cm
open PySem L2 PySem.Spec PyProof.Rows
theorem eqvAll_intsP : ∀ a b : List Int, PyData.eqvAll (a.map PyData.int) (b.map PyData.int) = decide (a = b)
  | [], [] => by simp [PyData.eqvAll]
  | [], b :: bs => by simp [PyData.eqvAll]
  | a :: as, [] => by simp [PyData.eqvAll]
  | a :: as, b :: bs => by
    have ih := eqvAll_intsP as bs
    simp only [List.map_cons, PyData.eqvAll, PyData.eqv, ih]
    by_cases h : a = b
    · by_cases h2 : as = bs <;> simp [h, h2]
    · simp [h]
theorem eqv_path (a b : List Int) : PyData.eqv (pathI a) (pathI b) = decide (a = b) := by
  have := eqvAll_intsP a b
  simp only [pathI, PyData.eqv]
  exact this
theorem any_path (S : List (List Int)) (p : List Int) : ((S.map pathI).any fun z => PyData.eqv z (pathI p)) = decide (p ∈ S) := by
  induction S with
  | nil => rfl
  | cons s S ih =>
    rw [List.map_cons, List.any_cons, ih, eqv_path]
    by_cases h : s = p
    · simp [h]
    · have : ¬ p = s := fun z => h z.symm
      simp [h, this]
theorem lay_path (p : List Int) : Lay 1 (pathI p) := Lay.tup (n := 0) fun d hd => by
  obtain ⟨i, _, rfl⟩ := List.mem_map.mp hd
  exact .int i 0
theorem lay_paths (S : List (List Int)) : Lay 2 (.list (S.map pathI)) := Lay.lst fun d hd => by
  obtain ⟨i, _, rfl⟩ := List.mem_map.mp hd
  exact lay_path i
theorem lay_pathsT (S : List (List Int)) : Lay 2 (.tuple (S.map pathI)) := Lay.tup fun d hd => by
  obtain ⟨i, _, rfl⟩ := List.mem_map.mp hd
  exact lay_path i
theorem ko_notInD {X : Cx} {K : PySem.W.Frag} (hu : X.A.units + 65 < cLine) (h : X.K = K := by rfl) : OpR X (compareOp .NotIn) (rNotInD K) := by subst h; exact op_notInD hu
theorem ko_inD {X : Cx} {K : PySem.W.Frag} (hu : X.A.units + 65 < cLine) (h : X.K = K := by rfl) : OpR X (compareOp .In) (rInD K) := by subst h; exact op_inD hu
def rListOf (K : PySem.W.Frag) : List V → Hp → VK → Prop := fun xs H Q => ∃ p ys, xs = [.ref p] ∧ (SqL K H p ys ∨ SqT K H p ys) ∧ ∀ l, H l = Option.none → Q (.ref l) (upd H l (.lst ys))
theorem kc_listOf {X : Cx} {K : PySem.W.Frag} (h : X.K = K := by rfl) : CallR X (.type "list") (rListOf K) := by subst h; exact call_list_of
theorem room65 {k : Nat} {A : Around} (r : Room k A) : A.units + 65 < cLine := by have := r.un; omega
end Cm

/-! an exception that is caught and kept as a value -/
namespace Cm
open PySem L2 PySem.Spec PyProof.Rows
/-- an exception object at a: its class, its dict -/
def ExH (a : Addr) (cls : Value) (d : Option Addr) : HO := .ext fun h => ∃ (o : Obj) (vs : Array Value), h.get? a = some o ∧ Zc cls d o ∧ o.data = .fields vs
theorem exH_ok {P : Program} {w : World} {H : Hp} {h : Heap} {a : Addr} {cls : Value} {d : Option Addr} {o : Obj} {vs : Array Value} (e : h.get? a = some o) (z : Zc cls d o) (f : o.data = .fields vs) : ObjOk P w H h a (ExH a cls d) :=
  ⟨⟨o, vs, e, z, f⟩, ⟨o, e⟩, fun h1 h2 ⟨o', vs', e', z', f'⟩ k => ⟨o', vs', k _ e', z', f'⟩⟩
theorem exH_at {P : Program} {w : World} {H : Hp} {h : Heap} {a : Addr} {cls : Value} {d : Option Addr} (hok : HOk P w H h) (e : H a = some (ExH a cls d)) : ∃ (o : Obj) (vs : Array Value), h.get? a = some o ∧ Zc cls d o ∧ o.data = .fields vs := by
  have x : ObjOk P w H h a (ExH a cls d) := hok a _ e
  exact x.1
section
variable {X : Cx} {pins : List (Addr × Obj)} {σ : L2.St} {H : Hp} {s : Shared}
theorem track {a : Addr} {o : HO} (I : Inv X pins σ H s) (na : H a = Option.none) (n0 : X.s_0.heap.get? a = Option.none) (nL : a ≠ X.env.locals) (nC : ∀ x c, X.env.cells.lookup x = some c → c ≠ a) (nP : ∀ p ∈ X.pn ++ pins, p.1 ≠ a)
    (new : ObjOk X.prog X.w (upd H a o) s.heap a o) : Inv X pins σ (upd H a o) s := by
  have other : ∀ {b : Addr} {u : HO}, H b = some u → (upd H a o) b = some u := fun {b u} e => by
    rw [upd_ne (ne_of_none e na)]
    exact e
  refine ⟨I.ok, I.os, I.bare, ⟨I.base.keep, I.base.slot, fun b u e n hx => ?_, I.base.there, fun b xs e => other (I.base.tups b xs e), fun b u xs e => other (I.base.frzs b u xs e), fun b ps e => ?_⟩, I.loc, I.cell, ?_, fun x c e => ?_, fun p hp => ?_, fun b u e => ?_, I.len⟩
  · have hb : b ≠ a := fun z => by
      rw [z, n0] at e
      cases e
    rw [upd_ne hb]
    exact I.base.free b u e n hx
  · obtain ⟨more, q⟩ := I.base.tbls b ps e
    exact ⟨more, other q⟩
  · rw [upd_ne nL.symm]
    exact I.free
  · rw [upd_ne (nC x c e)]
    exact I.freeC x c e
  · obtain ⟨e, n, ne, nf, dd⟩ := I.pin p hp
    exact ⟨e, by rw [upd_ne (nP p hp)]; exact n, ne, nf, dd⟩
  · by_cases hb : b = a
    · subst hb
      rw [upd_same] at e
      cases e
      exact new
    · rw [upd_ne hb] at e
      exact (I.hok b u e).stay (fun c v _ q => q) (fun c q => other q) fun c xs q => other q
theorem suite0 (I : Inv X pins σ H s) (a : Addr) : Inv (X.suite a (X.pn ++ pins)) [] σ H s :=
  ⟨I.ok.suite _ _, I.os, I.bare, I.base, I.loc, I.cell, I.free, I.freeC, fun p hp => I.pin p (by rw [List.append_nil] at hp; exact hp), I.hok, I.len⟩
theorem unsuite0 {a : Addr} {pn' : List (Addr × Obj)} (I : Inv (X.suite a (X.pn ++ pins)) pn' σ H s) (ok : X.Ok) : Inv X pins σ H s :=
  ⟨ok, I.os, I.bare, I.base, I.loc, I.cell, I.free, I.freeC, fun p hp => I.pin p (List.mem_append_left _ hp), I.hok, I.len⟩
end
/-- what the clause asks where the caught exception is kept -/
def wHeld (K : PySem.W.Frag) (c : Value) (i : Nat) (ts : Addr → TS) (D : Ends) : WX := fun cls d σ H =>
  PySem.W.exmOne K cls c = some true ∧ ∀ a, H a = Option.none → ts a { nx := fun σ' H' => D.nx (σ'.set i Option.none) H', rt := D.rt, bk := fun σ' H' => D.bk (σ'.set i Option.none) H', ct := fun σ' H' => D.ct (σ'.set i Option.none) H' } (σ.set i (some (.ref a))) (upd H a (ExH a cls d))
section
variable {X : Cx} {x n : Str} {c : Value} {i : Nat} {body suite : List Stmt} {b₀ : Stmt} {np pos pos' : Pos} {tb : WX → TS} {ts : Addr → TS}
theorem ps_try_held (hs : X.stack = X.env :: X.outer) (hf : X.env.frame = some X.env.locals) (hN : X.N.Nodup) (hi : X.N[i]? = some n) (hln : X.env.kindOf n = some .local) (hc : Names X x c) (hex : X.ex = [])
    (hb : ∀ (W : WX) (pn : List (Addr × Obj)) (xe : Value → Shared → Prop), Takes (X.tr pn xe) W → PassesOwn (model X.prog X.w) X.A X.env xe → PSs (X.tr pn xe) body (tb W))
    (hsu : ∀ (a : Addr) (pn : List (Addr × Obj)), PSs (X.suite a pn) (b₀ :: suite) (ts a)) :
    PS X (.Try body [.ExceptHandler (some (.Name x np)) (some n) (b₀ :: suite) pos'] [] [] pos) (fun D σ H => tb (wHeld X.K c i ts D) D σ H) := by
  refine ⟨fun pins s σ H D I h => ?_⟩
  have ok := I.ok
  have hfr : X.A.frames = some (X.env :: X.outer) := by rw [ok.frames, hs]
  refine wpAny_Try_except ?_
  refine wpAny_mono ((hb (wHeld X.K c i ts D) (X.pn ++ pins) (fun e s₁ => wpAny (model X.prog X.w) X.A (noteFrame e X.env) (fun _ s₂ => wpAny (model X.prog X.w) X.A (setFlight e Option.none) (fun _ s₃ =>
    wpAny (model X.prog X.w) X.A (handleBy e X.env [.ExceptHandler (some (.Name x np)) (some n) (b₀ :: suite) pos']) (SP X pins D) X.xe s₃) X.xe s₂) X.xe s₁) (fun u s' xx => ?_) PassesOwn.looking).run [] s σ H D (I.toTry _) h) (fun f s1 hsp => ?_) (fun e s1 he => he)
  · obtain ⟨a, B, sI, pins', σ', H', cls, d, rfl, J', nb, up, sky, na, os, ag, hb1, hyes⟩ := xx
    have J : Inv X pins σ' H' sI := J'.ofTry ok
    have sky' : Sky B (X.env :: X.outer) a (Zc cls d) X.env.locals s'.heap := by rw [← hs]; exact sky
    show wpAny _ _ (noteFrame (.ref a) X.env) _ _ _
    refine Sky.land Zc.steady hfr hf sky' fun h3 fl3 up3 => ?_
    have J3 : Inv X pins σ' H' { s' with heap := h3 } := J.landed nb fl3.1 (up.trans up3) os ag
    obtain ⟨oe3, vs3, he3, hz3, hd3⟩ := fl3.there
    have nfr : a ∉ frs X.stack := fun hm => by
      rw [hs] at hm
      obtain ⟨_, o', e', hnf⟩ := fl3.2.2.1.mem hm
      rw [he3] at e'
      cases e'
      exact hnf _ hd3
    have nsI : sI.heap.get? a = Option.none := by
      cases q : sI.heap.get? a with
      | none => rfl
      | some o =>
        have z := nb a o q nfr
        rw [fl3.2.1] at z
        cases z
    have n0 : X.s_0.heap.get? a = Option.none := by
      cases q : X.s_0.heap.get? a with
      | none => rfl
      | some o =>
        obtain ⟨o', z⟩ := J.base.there a o q (by rw [hex]; exact List.not_mem_nil)
        rw [nsI] at z
        cases z
    have nL : a ≠ X.env.locals := fun z => nfr (by
      rw [hs]
      exact List.mem_filterMap.mpr ⟨X.env, List.mem_cons_self, by rw [hf, z]⟩)
    have nC : ∀ y c, X.env.cells.lookup y = some c → c ≠ a := fun y c e z => by
      obtain ⟨v, o, ho, _⟩ := J.cell y c e
      rw [z, nsI] at ho
      cases ho
    have nP : ∀ p ∈ X.pn ++ pins, p.1 ≠ a := fun p hp z => by
      have q := (J.pin p hp).1
      rw [z, nsI] at q
      cases q
    have S3 := suite0 J3 a
    refine wpAny_handleBy_cons (codeAny_handlers_test ?_) (by intro q; cases q)
    have LT : PySem.W.Looks (model X.prog X.w) h3 (typeOf (.ref a)) cls := fun A Q E s k q => wpAny_typeOf_ref (k _ _ he3) (by rw [hz3.1]; exact q)
    have LM := PySem.W.exm_one (M := model X.prog X.w) (J3.kIn) LT hb1
    have test : ∀ {Q : Value → Shared → Prop} {E : Value → Shared → Prop}, Q c { s' with heap := h3 } → wpAny (model X.prog X.w) (X.A.mark (some (.ref a))) (eval (.Name x np) X.env) Q E { s' with heap := h3 } := fun {Q E} q => by
      obtain ⟨hg, hdbg, hm | ⟨hm, hv, hnn⟩⟩ := hc
      · exact ld_glob (X := X.suite a (X.pn ++ pins)) S3 hg hm q hdbg
      · exact ld_blt (X := X.suite a (X.pn ++ pins)) S3 hg hm hv q hnn hdbg
    refine test (LM.here ?_)
    refine codeAny_handlers_suite_as ?_
    refine HandSPX.lands_againZ fl3 fun h4 fl4 up4 => ?_
    have J4 : Inv X pins σ' H' { s' with heap := h4 } := J.landed nb fl4.1 ((up.trans up3).trans up4) os ag
    obtain ⟨oe4, vs4, he4, hz4, hd4⟩ := fl4.there
    have T4 := track (o := ExH a cls d) J4 na n0 nL nC nP (exH_ok he4 hz4 hd4)
    have S4 := suite0 T4 a
    refine store_ok (X := X.suite a (X.pn ++ pins)) (v := .ref a) S4 hN hi (.inl hln) rfl (fun s5 S5 => ?_) (.inr hln)
    refine wpAny_mono ((hsu a (X.pn ++ pins)).run [] s5 _ _ _ S5 (hyes a na)) (fun f s6 hsp => ?_) (fun _ _ z => False.elim z)
    have end_ : ∀ {σ6 : L2.St} {H6 : Hp} {Q : Shared → Prop}, Inv (X.suite a (X.pn ++ pins)) [] σ6 H6 s6 → (∀ s7, Inv X pins (σ6.set i Option.none) H6 s7 → Q s7) →
        wpAny (model X.prog X.w) X.A (do bindName X.env n .none; unbindBehindTheSuite X.env n pos') (fun _ s7 => Q s7) X.xe s6 := fun {σ6 H6 Q} S6 hq => gone_ok (unsuite0 S6 ok) hN hi hln hq
    cases f with
    | next =>
      obtain ⟨σ6, H6, S6, q6⟩ := hsp
      exact end_ S6 fun s7 J7 => ⟨_, _, J7, q6⟩
    | brk =>
      obtain ⟨σ6, H6, S6, q6⟩ := hsp
      exact end_ S6 fun s7 J7 => ⟨_, _, J7, q6⟩
    | cont =>
      obtain ⟨σ6, H6, S6, q6⟩ := hsp
      exact end_ S6 fun s7 J7 => ⟨_, _, J7, q6⟩
    | ret u =>
      obtain ⟨v6, σ6, H6, S6, r6, q6⟩ := hsp
      exact end_ S6 fun s7 J7 => ⟨_, _, _, J7, r6, q6⟩
  · cases f with
    | next =>
      obtain ⟨σ', H', J', q⟩ := hsp
      exact wpAny_execs_nil ⟨σ', H', J'.ofTry ok, q⟩
    | brk =>
      obtain ⟨σ', H', J', q⟩ := hsp
      exact ⟨σ', H', J'.ofTry ok, q⟩
    | cont =>
      obtain ⟨σ', H', J', q⟩ := hsp
      exact ⟨σ', H', J'.ofTry ok, q⟩
    | ret u =>
      obtain ⟨v, σ', H', J', r, q⟩ := hsp
      exact ⟨v, σ', H', J'.ofTry ok, r, q⟩
end
/-! ### isinstance(x, C), x a kept exception of just that class -/
theorem ans_same {x t : Value} {P : Heap → Prop} (ty : ∀ (M : Model) (h : Heap), P h → PySem.W.Looks M h (typeOf x) t) : Answers (fun s => P s.heap) x t true := by
  intro dep tk prog w A R s hs
  obtain ⟨h0, g, d, tt, os⟩ := s
  obtain ⟨p, hq⟩ := hs
  have LT := ty (model prog w) h0 p
  unfold Builtin.«isinstance.nested»
  refine wpAny_bind (LT.at ?_)
  have q : (t == t) = true := beq_self_eq_true t
  rw [if_pos q]
  first
    | exact wpAny_bind (wpAny_rule (hq tt))
    | exact wpAny_bind (wpAny_rule (wpAny_pure (hq tt)))
    | exact wpAny_pure (hq tt)
def rIsX : List V → Hp → VK → Prop := fun xs H Q => ∃ (a C : Addr) (d : Option Addr), xs = [.ref a, .ref C] ∧ H a = some (ExH a (.ref C) d) ∧ Q (.bl true) H
theorem call_isX {X : Cx} : CallR X (.builtin "isinstance") rIsX := by
  intro pins s σ H xs us Q I r h
  obtain ⟨a, C, d, rfl, e, q⟩ := h
  obtain ⟨u1, u2, rfl, r1, r2⟩ := vals2 r
  obtain rfl : u1 = Value.ref a := r1
  obtain rfl : u2 = Value.ref C := r2
  obtain ⟨o, vs, ho, z, f⟩ := exH_at I.hok e
  refine call_isinstance (S := fun _ R s => (∃ o, s.heap.get? a = some o ∧ o.cls = .ref C) ∧ ∀ tk, R (.ok (.ret (.bool true))) { s with toks := tk })
    (fun prog w A R s hs => isinstance_outer (ans_same (P := fun h => ∃ o, h.get? a = some o ∧ o.cls = .ref C) (fun M h ⟨o, e, c⟩ => fun A Q E s k q => wpAny_typeOf_ref (k _ _ e) (by rw [c]; exact q)) 0 _ prog w A R s hs) (fun z => nomatch z)) ⟨⟨o, ho, z.1⟩, fun tk => ⟨.bl true, H, I.tok tk, rfl, q⟩⟩
/-! ### x.f, x a kept exception -/
def tFldX (K : PySem.W.Frag) (f : Str) (te : TE) : TE := fun σ H Q => te σ H fun x H1 => ∃ (a C dd : Addr) (fs : List (Str × V)) (v : V), x = .ref a ∧ XfC K C ∧ PySem.W.findIn K (.ref C) f = some Option.none ∧ H1 a = some (ExH a (.ref C) (some dd)) ∧ H1 dd = some (.xd fs) ∧ fs.lookup f = some v ∧ Q v H1
theorem pe_fldX {X : Cx} {e : Expr} {te : TE} {pos : Pos} {n : Str} (he : PE X e te) (hb : attributeBase e n X.env (eval e X.env) = eval e X.env := by rfl) : PE X (.Attribute e n pos) (tFldX X.K n te) := by
  refine ⟨fun pins s σ H Q I h => ?_⟩
  refine attr_of hb (thn (he.run pins s σ H _ I h) fun u s1 hh => ?_)
  obtain ⟨x, H1, I1, rx, a, C, dd, fs, v, ex, T, hno, eh, ea, l, q⟩ := hh
  subst ex
  obtain rfl : u = Value.ref a := rx
  obtain ⟨oe, vs, ha, hz, hd⟩ := exH_at I1.hok eh
  have hx : ObjOk X.prog X.w H1 s1.heap dd (.xd fs) := I1.hok dd _ ea
  obtain ⟨mA, hns, hr⟩ := hx
  obtain ⟨od, ho, hl⟩ := lookIn_ns hns
  obtain ⟨u, hu, ru⟩ := RelO.some_of (v := v) (o := mA n) (by rw [← l]; exact hr n)
  have J : PySem.W.InstAt s1.heap a oe C (some od) := ⟨ha, hz.1, by unfold PySem.W.notCls; rw [hd] <;> rfl, by rw [hz.2]; exact ho⟩
  exact HandSPX.exc_get I1.kIn J T.ga T.gg T.exC (PySem.W.findObj_own T.hdC hno rfl (by rw [hl, hu])) (handed_of ru) ⟨v, H1, I1.tok _, ru, q⟩
end Cm

set_option linter.all false
/-! a tuple times 0, 1, 2, .. -/
namespace L2
open PySem PySem.Spec PyProof.Rows
theorem tuple_mul1 (l : Addr) (items : Array Value) (n : Nat) (dd : Option Addr) (sl : Array (Option Value)) (u : Tok) :
    Meets (Builtin.«tuple.__mul__» ⟨[.ref l, .int 1 u], []⟩) (fun _ R s => s.heap.get? l = some { cls := .type "tuple", dict := dd, data := .seq items n, slots := sl } ∧ R (.ok (.ret (Value.ref l))) s) :=
  .of_wp fun prog w A R s h => by
    obtain ⟨hp, g, d, tk, os⟩ := s
    obtain ⟨hl, h⟩ := h
    have f1 := AutoSeq1.idx_int
    wp_walk using wpAny_loadPart' hl
    exact ⟨_, rfl, h⟩
theorem tuple_mul0 (l : Addr) (items : Array Value) (n : Nat) (dd : Option Addr) (sl : Array (Option Value)) (u : Tok) (hne : items.isEmpty = false) :
    Meets (Builtin.«tuple.__mul__» ⟨[.ref l, .int 0 u], []⟩) (fun _ R s => s.heap.get? l = some { cls := .type "tuple", dict := dd, data := .seq items n, slots := sl } ∧
      R (.ok (.ret (Value.ref s.heap.objs.size))) { s with heap := s.heap.push { cls := Value.type "tuple", data := Data.seq #[] }, toks := s.toks }) :=
  .of_wp fun prog w A R s h => by
    obtain ⟨hp, g, d, tk, os⟩ := s
    obtain ⟨hl, h⟩ := h
    have f1 := AutoSeq1.idx_int
    have c1 : (items.isEmpty || (0 : Int) == 1) = false := by rw [hne]; rfl
    wp_walk using wpAny_loadPart' hl
    repeat (first
      | (refine wpAny_ite_false (decide_eq_false (by rw [c1]; exact Bool.false_ne_true)) ?_; wp_walk using wpAny_loadPart' hl)
      | (refine wpAny_ite_true (decide_eq_true (by simp)) ?_; wp_walk using wpAny_loadPart' hl))
    exact ⟨_, rfl, h⟩
def rRepA (K : PySem.W.Frag) : R2 := fun x y H Q => ∃ (l : Addr) (k : Nat) (xs : List V), x = .ref l ∧ y = .int (k : Nat) ∧ SqT K H l xs ∧ xs ≠ [] ∧ k ≤ 1000 ∧ xs.length ≤ 1000 ∧
  ∀ t H', Same H H' → SqT K H' t (List.replicate k xs).flatten → Q (.ref t) H'
theorem op_repA {X : Cx} : OpR X (binaryOp .Mult) (rRepA X.K) := by
  intro pins s σ H x y v u Q I rx ry h
  obtain ⟨l, k, xs, rfl, rfl, hT, hne, h2, hz, q⟩ := h
  by_cases hk : 2 ≤ k
  · refine op_repT pins s σ H _ _ v u Q I rx ry ⟨l, (k : Int), xs, rfl, rfl, hT, hne, by omega, by omega, hz, fun p hp => ?_⟩
    rw [Int.toNat_natCast]
    exact q p _ (Cm.same_new hp) (.inl (.inl upd_same))
  cases rx
  obtain ⟨t, rfl⟩ := ry
  obtain ⟨its, r, ⟨⟨cls, dd, data, sl⟩, ho, hc, n, hd⟩, hs⟩ := I.tuple hT
  simp only at hc hd
  subst hc hd
  have hi : its.toArray.isEmpty = false := by
    cases its with
    | nil =>
      have := r.length
      exact absurd (List.eq_nil_of_length_eq_zero this) hne
    | cons a b => rfl
  by_cases h1 : k = 1
  · subst h1
    refine wpAny_binaryOp_repeat_ref (T := "tuple") (U := "int") (by decide) ⟨_, ho, rfl⟩ (fun s' => typeIs_int s' 1 t) noFill_tuple_mul F.fills_int_mul F.slot_int_rmul repeat_tuple F.slot_int_index.lookup
      (call_meets F.slot_int_rmul (typeIs_int s 1 t) F.entry_int_rmul (F.args_int_rmul_2 _ _) (int_rmul_tuple 1 t l its.toArray n dd sl)
        ⟨ho, rfl, ⟨_, ho, rfl⟩, call_meets F.slot_tuple_mul ⟨_, ho, rfl⟩ F.entry_tuple_mul (F.args_tuple_mul_2 _ _) (tuple_mul1 l its.toArray n dd sl t) ⟨ho, ?_⟩⟩)
    refine ⟨.ref l, H, I, rfl, q l H (Same.refl H) ?_⟩
    have e : (List.replicate 1 xs).flatten = xs := by simp
    rw [e]
    exact hT
  · have h0 : k = 0 := by omega
    subst h0
    refine wpAny_binaryOp_repeat_ref (T := "tuple") (U := "int") (by decide) ⟨_, ho, rfl⟩ (fun s' => typeIs_int s' 0 t) noFill_tuple_mul F.fills_int_mul F.slot_int_rmul repeat_tuple F.slot_int_index.lookup
      (call_meets F.slot_int_rmul (typeIs_int s 0 t) F.entry_int_rmul (F.args_int_rmul_2 _ _) (int_rmul_tuple 0 t l its.toArray n dd sl)
        ⟨ho, rfl, ⟨_, ho, rfl⟩, call_meets F.slot_tuple_mul ⟨_, ho, rfl⟩ F.entry_tuple_mul (F.args_tuple_mul_2 _ _) (tuple_mul0 l its.toArray n dd sl t hi) ⟨ho, ?_⟩⟩)
    have hn := I.hok.fresh (Nat.le_refl s.heap.objs.size)
    refine ⟨.ref s.heap.objs.size, _, I.laid (t' := s.toks) (o := .tup []) (fun b ob q => Heap.get?_push_of_some _ q) (Nat.le_refl _) ?_, rfl, q _ _ (Cm.same_new hn) (.inl (.inl upd_same))⟩
    exact ⟨by show 0 ≤ sizeLine; rw [sizeLine_eq]; omega, [], .nil, IsTup.new _ _⟩
end L2

set_option linter.all false
/-! sorted of texts and of a dict with text keys, of any length; rows of texts in order -/
namespace Cm
open PySem L2 PySem.Spec PyProof.Rows
section
variable {X : Cx}
def rSortedSA (K : PySem.W.Frag) : List V → Hp → VK → Prop := fun vs H Q => ∃ (a : Addr) (xs : List Str), vs = [V.ref a] ∧ SqL K H a (xs.map V.str) ∧
  ∀ (ys : List Str) (p : Addr), ys.Perm xs → sortedS ys = true → H p = Option.none → Q (.ref p) (upd H p (.lst (ys.map V.str)))
theorem cr_sortedSA : CallR X (.builtin "sorted") (rSortedSA X.K) := by
  intro pins s σ H vs us Q I r h
  obtain ⟨a, xs, rfl, hs, q⟩ := h
  obtain ⟨its, rv, hl, hz⟩ := I.list hs
  rw [Vals.ref1 r]
  have hlen0 := rv.length
  rw [List.length_map] at hlen0 hz
  refine PyProof.Rows.sorted_strsAny hl.isList rv.strs (by rw [← hlen0]; exact hz) fun out ys h1 h2 h3 => ?_
  obtain ⟨ep, he'⟩ := PyProof.Rows.sortedAll_at s.heap its out
  have hlen : (ys.map V.str).length ≤ sizeLine := by rw [List.length_map, h2.length_eq]; exact hz
  exact ⟨.ref _, upd H (s.heap.objs.size + 1) (.lst (ys.map V.str)), I.laid (t' := s.toks) (fun _ _ => PyProof.Rows.sortedAll_old) (Nat.le_succ _) ⟨hlen, out.toList, ep, vals_of_strs h1, he'⟩, rfl, q ys _ h2 h3 (I.hok.fresh (Nat.le_succ _))⟩
def rSortedDA : List V → Hp → VK → Prop := fun xs H Q => ∃ (a : Addr) (kvs : List (Key × V)) (ks : List Str), xs = [.ref a] ∧ Rd H a (.dK kvs) ∧ kvs.map (·.1) = ks.map Sum.inr ∧ ks.length ≤ 16000000 ∧
    ∀ ys p, ys.Perm ks → sortedS ys = true → H p = Option.none → Q (.ref p) (upd H p (.lst (ys.map V.str)))
theorem call_sortedDA (hcalm : X.calm = true) : CallR X (.builtin "sorted") rSortedDA := by
  intro pins s σ H xs us Q I r q
  obtain ⟨a, kvs, ks, ex, hd, hks, h64, q⟩ := q
  subst ex
  obtain ⟨u, eu, rx⟩ := vals1 r
  subst eu
  cases rx
  obtain ⟨z, lo, vs, rel, dd⟩ := dk_rd I.hok hd
  obtain ⟨ep, hat⟩ := dd.dictAt
  have hkeys : vs.map (·.1) = ks.map Sum.inr := rel.keys.symm.trans hks
  have hl : vs.length = ks.length := by
    have e := congrArg List.length hkeys
    rw [List.length_map, List.length_map] at e
    exact e
  have h16 : vs.length ≤ sizeLine := by rw [hl, sizeLine_eq]; omega
  refine Calls.call_function_entry PyProof.Rows.kind_sorted PyProof.Rows.plain_sorted PyProof.Rows.entry_sorted (PyProof.Rows.args_sorted1 _) ?_
  unfold Builtin.«sorted»
  refine wpAny_bind (m := checkCount "sorted" 1 1 _) (wpAny_pure ?_)
  refine wpAny_bind (PySem.W.kdu_collect (A := X.A.in1) (PySem.W.kdl_dict (knd := mixKind X.prog X.w) (kvs := vs) (ep := ep) lo) (I.ok.hd hcalm) hat h16 fun h' tk acc hk hacc => ?_)
  have hal : acc.toList.length = ks.length := by rw [Array.length_toList, hacc.1, hl]
  have hS : StrsAre acc.toList ks := strs_at hal fun j v e => by
    obtain ⟨k, x, e1, e2⟩ := hacc.2 j v (by rw [← Array.getElem?_toList]; exact e)
    have e3 : (vs.map (·.1))[j]? = some k := by rw [List.getElem?_map, e1]; all_goals rfl
    rw [hkeys, List.getElem?_map] at e3
    cases e4 : ks[j]? with
    | none => rw [e4] at e3; cases e3
    | some y =>
      rw [e4] at e3
      have e5 : Sum.inr y = k := Option.some.inj e3
      subst e5
      obtain ⟨t, ev⟩ := Value.isStrOf_shape (x := y) (v := v) e2
      exact ⟨y, t, rfl, ev⟩
  have I1 : Inv X pins σ H { s with heap := h', toks := tk } := I.kept hk
  refine wpAny_bind (wpAny_newList ?_ (by rw [hal, sizeLine_eq]; omega))
  have hoL : (h'.push (seqObj "list" acc.toList.toArray 0)).get? h'.objs.size = some (seqObj "list" acc.toList.toArray 0) := Heap.get?_push_size _ rfl
  show wpAny _ _ _ _ _ { s with heap := h'.push (seqObj "list" acc.toList.toArray 0), toks := tk }
  refine wpAny_bind (wpAny_holding (wpAny_call_entry PyProof.Rows.slot_list_sort ⟨_, hoL, rfl⟩ PyProof.Rows.entry_list_sort
    (list_sort_treeKAny strKind_oneLt (s := { s with heap := h'.push (seqObj "list" acc.toList.toArray 0), toks := tk }) hoL hS.keysOf (fun v₁ v₂ rest e => keyKind_strs (by rw [← e]; exact hS)) (by rw [hal, sizeLine_eq]; omega) fun st' hp hs => ⟨_, rfl, ?_⟩)
    (PyProof.Rows.args_list_sort _)))
  obtain ⟨ys, g1, g2, g3⟩ := sorted_out_str hS hp hs
  obtain ⟨e', he'⟩ := PyProof.Rows.sortedHeap_at (vs := acc.toList) (out := (arrOf st').map (·.2)) hoL
  have hlen : (ys.map V.str).length ≤ sizeLine := by
    rw [List.length_map, g2.length_eq, sizeLine_eq]
    omega
  refine wpAny_pure ⟨_, rfl, .ref h'.objs.size, upd H h'.objs.size (.lst (ys.map V.str)), I1.laid (t' := tk) (fun b u e => ?_) (Nat.le_refl _)
    (show ObjOk X.prog X.w _ _ _ (.lst (ys.map V.str)) from ⟨hlen, ((arrOf st').map (·.2)).toList, e', vals_of_strs g1, by rw [Array.toArray_toList]; exact he'⟩), rfl, q ys _ g2 g3 (I1.hok.fresh (Nat.le_refl _))⟩
  have hb : b < h'.objs.size := Heap.lt_size e
  rw [PyProof.Rows.sortedHeap_old (Nat.ne_of_lt hb) (by rw [size_push']; exact Nat.lt_succ_of_lt hb)]
  exact Heap.get?_push_of_some _ e
end
/-! ### rows of texts in order -/
def leS (a b : Str) : Prop := ¬ b.cps.toList < a.cps.toList
theorem leS.tr {a b c : Str} (h : leS a b) (k : leS b c) : leS a c := fun z =>
  absurd z (List.not_lt.mpr (List.le_trans (show a.cps.toList ≤ b.cps.toList from h) (show b.cps.toList ≤ c.cps.toList from k)))
theorem leS.eq {a b : Str} (h : leS a b) (k : leS b a) : a = b := by
  have e : a.cps.toList = b.cps.toList := List.le_antisymm (show a.cps.toList ≤ b.cps.toList from h) (show b.cps.toList ≤ a.cps.toList from k)
  cases a with
  | mk x => cases b with
    | mk y =>
      have e' : x = y := Array.toList_inj.mp e
      rw [e']
theorem leS.refl (a : Str) : leS a a := List.lt_irrefl _
theorem rising_le : ∀ (l : List Str) (p : Str), risingS p l = true → (p :: l).Pairwise leS
  | [], p, _ => List.pairwise_singleton _ _
  | x :: r, p, h => by
    have h' : (!ltCps x.cps.toList p.cps.toList && risingS x r) = true := h
    rw [Bool.and_eq_true] at h'
    have ih := rising_le r x h'.2
    have le : leS p x := fun z => by
      have := h'.1
      rw [ltCps_eq, decide_eq_true z] at this
      cases this
    refine List.pairwise_cons.mpr ⟨fun y hy => ?_, ih⟩
    rcases List.mem_cons.mp hy with rfl | hy
    · exact le
    · exact le.tr ((List.pairwise_cons.mp ih).1 y hy)
theorem sorted_le : ∀ {l : List Str}, sortedS l = true → l.Pairwise leS
  | [], _ => .nil
  | x :: r, h => rising_le r x h
/-- ascending, without doubles -/
structure Asc (l : List Str) : Prop where
  le : l.Pairwise leS
  nd : l.Nodup
theorem Asc.uniq : ∀ {l m : List Str}, Asc l → Asc m → (∀ x, x ∈ l ↔ x ∈ m) → l = m := fun {l m} hl hm h => by
  have p : l.Perm m := (List.perm_ext_iff_of_nodup hl.nd hm.nd).mpr h
  exact List.Perm.eq_of_pairwise (fun a b _ _ h k => leS.eq h k) hl.le hm.le p
theorem asc_of {l ys : List Str} (h : ys.Perm l) (s : sortedS ys = true) (n : l.Nodup) : Asc ys ∧ ∀ x, x ∈ ys ↔ x ∈ l :=
  ⟨⟨sorted_le s, h.nodup_iff.mpr n⟩, fun x => h.mem_iff⟩
/-- one more text, not less than those that stand -/
theorem Asc.snoc {l : List Str} {x : Str} (h : Asc l) (k : ∀ y ∈ l, leS y x) (n : l.getLast? ≠ some x) : Asc (l ++ [x]) := by
  have no : x ∉ l := fun m => by
    cases e : l.getLast? with
    | none => rw [List.getLast?_eq_none_iff] at e; rw [e] at m; cases m
    | some z =>
      obtain ⟨r, rfl⟩ := List.getLast?_eq_some_iff.mp e
      have hz : leS z x := k z (List.mem_append_right _ List.mem_cons_self)
      rcases List.mem_append.mp m with m | m
      · have hx : leS x z := (List.pairwise_append.mp h.le).2.2 x m z List.mem_cons_self
        exact n (by rw [e, hz.eq hx])
      · exact n (by rw [e, List.mem_singleton.mp m])
  refine ⟨List.pairwise_append.mpr ⟨h.le, List.pairwise_singleton _ _, fun a ha b hb => ?_⟩, List.nodup_append.mpr ⟨h.nd, List.nodup_cons.mpr ⟨List.not_mem_nil, List.nodup_nil⟩, fun a ha b hb e => ?_⟩⟩
  · rw [List.mem_singleton.mp hb]
    exact k a ha
  · rw [List.mem_singleton.mp hb] at e
    exact no (e ▸ ha)
/-! ### keys of a dict that are texts -/
theorem putK_keys {kvs : List (Key × V)} {ns : List Str} (h : kvs.map (·.1) = ns.map Sum.inr) (x : Str) (v : V) : (putK kvs (Sum.inr x) v).map (·.1) = (if x ∈ ns then ns else ns ++ [x]).map Sum.inr := by
  have a : (kvs.any fun kv => decide (kv.1 = Sum.inr x)) = decide (x ∈ ns) := by
    have e : (kvs.any fun kv => decide (kv.1 = Sum.inr x)) = (kvs.map (·.1)).any fun k => decide (k = Sum.inr x) := by rw [List.any_map]; rfl
    rw [e, h, List.any_map]
    clear h e
    induction ns with
    | nil => rfl
    | cons n ns ih =>
      rw [List.any_cons, ih]
      by_cases q : n = x
      · subst q
        simp
      · have : ¬ x = n := fun z => q z.symm
        simp [q, this]
  unfold putK
  rw [a]
  by_cases q : x ∈ ns
  · rw [if_pos (decide_eq_true q), if_pos q, List.map_map, ← h]
    refine List.map_congr_left fun kv _ => ?_
    show (if kv.1 = Sum.inr x then (kv.1, v) else kv).1 = kv.1
    split <;> rfl
  · rw [if_neg (by rw [decide_eq_false q]; exact Bool.false_ne_true), if_neg q, List.map_append, List.map_append, h]
    rfl
/-- what is kept but the dict d -/
structure Kd (d : Addr) (H H' : Hp) : Prop where
  st : ∀ a o, a ≠ d → H a = some o → H' a = some o
  d1 : ∃ kvs, H d = some (.dK kvs)
  d2 : ∃ kvs, H' d = some (.dK kvs)
theorem Kd.trans {d : Addr} {H H1 H2 : Hp} (a : Kd d H H1) (b : Kd d H1 H2) : Kd d H H2 := ⟨fun x o n e => b.st x o n (a.st x o n e), a.d1, b.d2⟩
theorem Kd.of_same {d : Addr} {H H' : Hp} {kvs : List (Key × V)} (h : H d = some (.dK kvs)) (s : Same H H') : Kd d H H' := ⟨fun x o _ e => s x o e, ⟨_, h⟩, ⟨_, s _ _ h⟩⟩
theorem Kd.put {d : Addr} {H : Hp} {kvs kvs' : List (Key × V)} (h : H d = some (.dK kvs)) : Kd d H (upd H d (.dK kvs')) := ⟨fun x o n e => by rw [upd_ne n]; exact e, ⟨_, h⟩, ⟨_, upd_same⟩⟩
theorem Kd.tup {d : Addr} {K : PySem.W.Frag} {H H' : Hp} {a : Addr} {xs : List V} (k : Kd d H H') (h : SqT K H a xs) : SqT K H' a xs := by
  have no : ∀ o, H a = some o → (∀ ys, o ≠ .dK ys) → a ≠ d := fun o e n m => by
    obtain ⟨ys, e2⟩ := k.d1
    rw [m, e2] at e
    exact n ys (Option.some.inj e).symm
  rcases h with (h | ⟨o, h⟩) | h
  · exact .inl (.inl (k.st _ _ (no _ h fun _ z => nomatch z) h))
  · exact .inl (.inr ⟨o, k.st _ _ (no _ h fun _ z => nomatch z) h⟩)
  · exact .inr h
theorem Kd.dp {d : Addr} {K : PySem.W.Frag} {H H' : Hp} (k : Kd d H H') {v : V} {x : PyData} (f : flatD x = true) (h : Dp K H v x) : Dp K H' v x := dp_keep (fun _ _ q => k.tup q) _ _ f h
theorem Kd.dps {d : Addr} {K : PySem.W.Frag} {H H' : Hp} (k : Kd d H H') {vs : List V} {ds : List PyData} (f : flatDs ds = true) (h : DpAll K H vs ds) : DpAll K H' vs ds := dps_keep (fun _ _ q => k.tup q) _ _ f h
/-- a comprehension over data, of any size -/
theorem lc_dataW {K : PySem.W.Frag} {J : It} {n : Nat} {G : Hp → Prop} {Y : Nat → Hp → V → Hp → Prop} (wk : Walk J n G Y) {g : TG} {tt : TT} {te : TE} {vs : List Nat} {σ : L2.St} {H1 : Hp} {D : Addr} {Qd : Hp → Prop} (R : Nat → Option PyData)
    (hD : H1 D = Option.none) (hn : n ≤ 16000000) (hG : ∀ H, Same H1 H → G H) (hfl : ∀ i < n, ∀ d, R i = some d → flatD d = true)
    (hs : ∀ i x H H', i < n → Same H1 H → Y i H x H' → ∀ (Q1 : VK) (Q0 : Hp → Prop), (∀ v H4 d, R i = some d → Same H H4 → Dp K H4 v d → Q1 v H4) → (∀ H3, R i = none → Same H H3 → Q0 H3) →
      g x (wipe σ vs) H' fun σ2 H2 => wipe σ2 vs = wipe σ vs ∧ tt σ2 H2 fun b H3 => if b = true then te σ2 H3 Q1 else Q0 H3)
    (hd : ∀ H acc, Same H1 H → H D = some (.lst acc) → DpAll K H acc ((List.range n).filterMap R) → Qd H) :
    ∃ W : Nat → Nat → Hp → Prop, (∃ m, W 0 m (upd H1 D (.lst []))) ∧ ∀ i m H, W i m H →
      (J.stop i H ∧ Qd H) ∨ (J.go i H ∧ ∃ Nx : Hp → Prop, (∀ H', Nx H' → ∃ m', m' < m ∧ W (i + 1) m' H') ∧ ∀ x H', J.yld i H x H' → g x (wipe σ vs) H' fun σ2 H2 => wipe σ2 vs = wipe σ vs ∧ tt σ2 H2 fun b H3 =>
        if b = true then te σ2 H3 fun y H4 => ∃ acc, H4 D = some (.lst acc) ∧ acc.length < sizeLine ∧ Nx (upd H4 D (.lst (acc ++ [y]))) else Nx H3) := by
  have fl : ∀ i ≤ n, flatDs ((List.range i).filterMap R) = true := fun i hi => flatDs_of _ fun d hd => by
    obtain ⟨j, hj, e⟩ := List.mem_filterMap.mp hd
    exact hfl j (by have := List.mem_range.mp hj; omega) d e
  refine lc_it wk (fun i H => ∃ acc, Same H1 H ∧ H D = some (.lst acc) ∧ DpAll K H acc ((List.range i).filterMap R) ∧ acc.length ≤ i) ⟨[], same_new hD, upd_same, .nil, Nat.le_refl _⟩ (fun i H _ z => ?_) ?_ ?_
  · obtain ⟨acc, s, _⟩ := z
    exact hG H s
  · rintro i x H H' hi ⟨acc, s, hacc, ha, hl⟩ y
    refine hs i x H H' hi s y _ _ (fun v H4 d e s4 hv => ?_) (fun H3 e s3 => ?_)
    · have hD4 := s4 _ _ hacc
      refine ⟨acc, hD4, (by rw [sizeLine_eq]; omega), acc ++ [v], same_put (s.trans s4) hD, upd_same, ?_, by rw [List.length_append]; exact Nat.succ_le_succ hl⟩
      rw [List.range_succ, List.filterMap_append]
      have e1 : ([i].filterMap R) = [d] := by simp [e]
      rw [e1]
      exact DpAll.snoc (dp_keep (fun _ _ q => sqt_put hD4 q) _ _ (hfl i hi d e) hv) (dps_keep (fun _ _ q => sqt_put hD4 q) _ _ (fl i (by omega)) (dps_same s4 _ _ ha))
    · refine ⟨acc, s.trans s3, s3 _ _ hacc, ?_, by omega⟩
      rw [List.range_succ, List.filterMap_append]
      have e1 : ([i].filterMap R) = [] := by simp [e]
      rw [e1, List.append_nil]
      exact dps_same s3 _ _ ha
  · rintro H ⟨acc, s, hacc, ha, _⟩
    exact hd H acc s hacc ha
end Cm

/-! a comprehension that draws, with a word on what was made so far -/
namespace Cm
open PySem L2 PySem.Spec PyProof.Rows
theorem lc_drawJ {K : PySem.W.Frag} {M : Addr → Prop} {I : It} {n : Nat} {G : Hp → Prop} {Y : Nat → Hp → V → Hp → Prop} (wk : Walk I n G Y) {g : TG} {tt : TT} {te : TE} {vs : List Nat} {σ : L2.St} {H1 : Hp} {D : Addr} {Qd : Hp → Prop}
    (J : Nat → List PyData → Hp → Prop) (hM : ∀ a, M a → ∃ xs, H1 a = some (.lst xs)) (h0 : J 0 [] (upd H1 D (.lst []))) (hJ : ∀ i ds H ys, Kp M H1 H → J i ds H → J i ds (upd H D (.lst ys)))
    (hD : H1 D = Option.none) (hn : n ≤ 100000) (hG : ∀ i ds H, Kp M H1 H → J i ds H → G H) (hfl : ∀ i ds H, J i ds H → flatDs ds = true)
    (hs : ∀ i x ds H H', i < n → Kp M H1 H → J i ds H → Y i H x H' → ∀ (Q1 : VK) (Q0 : Hp → Prop), (∀ v H4 d, Kp M H H4 → J (i + 1) (ds ++ [d]) H4 → Dp K H4 v d → Q1 v H4) → (∀ H3, Kp M H H3 → J (i + 1) ds H3 → Q0 H3) →
      g x (wipe σ vs) H' fun σ2 H2 => wipe σ2 vs = wipe σ vs ∧ tt σ2 H2 fun b H3 => if b = true then te σ2 H3 Q1 else Q0 H3)
    (hd : ∀ H acc ds, Kp M H1 H → J n ds H → H D = some (.lst acc) → DpAll K H acc ds → Qd H) :
    ∃ W : Nat → Nat → Hp → Prop, (∃ m, W 0 m (upd H1 D (.lst []))) ∧ ∀ i m H, W i m H →
      (I.stop i H ∧ Qd H) ∨ (I.go i H ∧ ∃ Nx : Hp → Prop, (∀ H', Nx H' → ∃ m', m' < m ∧ W (i + 1) m' H') ∧ ∀ x H', I.yld i H x H' → g x (wipe σ vs) H' fun σ2 H2 => wipe σ2 vs = wipe σ vs ∧ tt σ2 H2 fun b H3 =>
        if b = true then te σ2 H3 fun y H4 => ∃ acc, H4 D = some (.lst acc) ∧ acc.length < sizeLine ∧ Nx (upd H4 D (.lst (acc ++ [y]))) else Nx H3) := by
  have nM : ¬ M D := fun m => by
    obtain ⟨xs, e⟩ := hM D m
    rw [hD] at e
    cases e
  refine lc_it wk (fun i H => ∃ acc ds, Kp M H1 H ∧ J i ds H ∧ H D = some (.lst acc) ∧ DpAll K H acc ds ∧ acc.length ≤ i) ⟨[], [], Kp.new hM hD, h0, upd_same, .nil, Nat.le_refl _⟩ (fun i H _ z => ?_) ?_ ?_
  · obtain ⟨acc, ds, s, j, _⟩ := z
    exact hG i ds H s j
  · rintro i x H H' hi ⟨acc, ds, s, j, hacc, ha, hl⟩ y
    refine hs i x ds H H' hi s j y _ _ (fun v H4 d s4 j4 hv => ?_) (fun H3 s3 j3 => ?_)
    · have hD4 := s4.st _ _ nM hacc
      have f4 := hfl _ _ _ j4
      have f1 : flatDs ds = true := hfl _ _ _ j
      have f2 : flatD d = true := flatDs_all f4 d (List.mem_append_right _ (List.mem_singleton.mpr rfl))
      refine ⟨acc, hD4, Nat.lt_of_le_of_lt hl (Nat.lt_of_lt_of_le (show i < 100000 by omega) (by decide)), acc ++ [v], ds ++ [d], (s.trans s4).mut hD, hJ _ _ _ _ (s.trans s4) j4, upd_same, ?_, by rw [List.length_append]; exact Nat.succ_le_succ hl⟩
      exact DpAll.snoc (dp_keep (fun _ _ q => sqt_put hD4 q) _ _ f2 hv) (dps_keep (fun _ _ q => sqt_put hD4 q) _ _ f1 (dps_keep (fun _ _ q => s4.tup q) _ _ f1 ha))
    · exact ⟨acc, ds, s.trans s3, j3, s3.st _ _ nM hacc, dps_keep (fun _ _ q => s3.tup q) _ _ (hfl _ _ _ j) ha, by omega⟩
  · rintro H ⟨acc, ds, s, j, hacc, ha, _⟩
    exact hd H acc ds s j hacc ha
/-- a built-in method with arguments, where K is said -/
theorem ke_bm {X : Cx} {K : PySem.W.Frag} {T : String} {name : Str} {id : String} {r : V → List V → Hp → VK → Prop} {o e : Expr} {es : List Expr} {to : TE} {t : TA} {apos cpos : Pos} (pa : PlainAttrs T) (slot : Slot T name id)
    (hty : typeOf (.builtin id) = pure (.type "method_descriptor")) (hm : MtR X id r) (ho : PE X o to) (ha : PA X (e :: es) t) (hK : X.K = K := by rfl) (b1 : attributeBase o name X.env (eval o X.env) = eval o X.env := by rfl)
    (b2 : ((backTo cpos (starEach (e :: es) X.env)).all (fun x => !x.1) && (backToKw cpos (keywordEach [] X.env)).all (fun x => x.1.isSome) && decide ((e :: es).length + ([] : List Keyword).length + (if ([] : List Keyword).isEmpty then 0 else 1) < 30)) = true := by rfl)
    (b3 : (apos.endLine == cpos.line) = true := by rfl) (b4 : starEach (e :: es) X.env = (false, eval e X.env) :: starEach es X.env := by rfl) (b5 : (backTo cpos (starEach es X.env)).any (·.1) = false := by rfl) :
    PE X (.Call (.Attribute o name apos) (e :: es) [] cpos) (tBM K T r to t) := by
  subst hK
  exact pe_bm pa slot hty hm ho ha b1 b2 b3 b4 b5
end Cm

/-! trees that are drawn: the hand and the room -/
namespace Cm
open PySem L2 PySem.Spec PyProof.Rows
/-- the hand at h, the room k at r -/
structure Gn (H : Hp) (h c r : Addr) (k : Nat) : Prop where
  hand : Hand H h c
  rm : H r = some (.lst [.int (k : Nat)])
  rh : r ≠ h
  rc : r ≠ c
abbrev Kr (h r : Addr) : Hp → Hp → Prop := Kp (fun a => a = h ∨ a = r)
theorem Gn.lists {H : Hp} {h c r : Addr} {k : Nat} (x : Gn H h c r k) : ∀ a, (a = h ∨ a = r) → ∃ xs, H a = some (.lst xs) := fun a m => by
  rcases m with rfl | rfl
  · exact x.hand.lst
  · exact ⟨_, x.rm⟩
theorem Gn.refl {H : Hp} {h c r : Addr} {k : Nat} (x : Gn H h c r k) : Kr h r H H := Kp.refl x.lists
theorem Gn.same {H H' : Hp} {h c r : Addr} {k : Nat} (x : Gn H h c r k) (s : Same H H') : Gn H' h c r k ∧ Kr h r H H' := ⟨⟨x.hand.same s, s _ _ x.rm, x.rh, x.rc⟩, .of_same x.lists s⟩
theorem Gn.draw {H H' : Hp} {h c r : Addr} {k : Nat} (x : Gn H h c r k) (kh : Kh h H H') (hh : Hand H' h c) : Gn H' h c r k ∧ Kr h r H H' :=
  ⟨⟨hh, kh.st _ _ x.rh x.rm, x.rh, x.rc⟩, kh.wider (fun _ m => .inl m) x.lists⟩
theorem Gn.puts {H : Hp} {h c r D : Addr} {o : HO} {k : Nat} (x : Gn H h c r k) (n1 : D ≠ h) (n2 : D ≠ c) (n3 : D ≠ r) : Gn (upd H D o) h c r k :=
  ⟨x.hand.puts n1 n2, by rw [upd_ne n3.symm]; exact x.rm, x.rh, x.rc⟩
/-- the room is one less -/
theorem Gn.less {H : Hp} {h c r : Addr} {k : Nat} (x : Gn H h c r (k + 1)) : Gn (upd H r (.lst [.int (k : Nat)])) h c r k ∧ Kr h r H (upd H r (.lst [.int (k : Nat)])) :=
  ⟨⟨x.hand.puts x.rh x.rc, upd_same, x.rh, x.rc⟩, Kp.put x.lists (.inr rfl)⟩
theorem sizes_snoc (t : Tr) : ∀ ts : List Tr, Tr.sizes (ts ++ [t]) = Tr.sizes ts + t.size
  | [] => by show t.size + 0 = 0 + t.size; omega
  | a :: ts => by
    have := sizes_snoc t ts
    show a.size + Tr.sizes (ts ++ [t]) = a.size + Tr.sizes ts + t.size
    omega
/-- a comprehension of drawn trees: F says how they lie in the list, E how one of them does -/
theorem lc_gen {K : PySem.W.Frag} {h c r : Addr} {k : Nat} {I : It} {n : Nat} {G : Hp → Prop} {Y : Nat → Hp → V → Hp → Prop} (wk : Walk I n G Y) {g : TG} {te : TE} {vs : List Nat} {σ : L2.St} {H1 : Hp} {D : Addr} {Qd : Hp → Prop}
    (F : List Tr → List PyData) (E : Nat → Tr → PyData) (dm cost : Nat) (F0 : F [] = []) (FS : ∀ ts t, ts.length < n → F (ts ++ [t]) = F ts ++ [E ts.length t]) (Fl : ∀ ts, flatDs (F ts) = true)
    (x0 : Gn H1 h c r k) (hD : H1 D = Option.none) (hn : n ≤ 100000) (hG : ∀ H, Kr h r H1 H → G H)
    (hs : ∀ i x k1 H H', i < n → Kr h r H1 H → Gn H h c r k1 → Y i H x H' → ∀ Q1 : VK, (∀ v t k2 H4, Kr h r H H4 → Gn H4 h c r k2 → Dp K H4 v (E i t) → t.ok → t.dep ≤ dm → t.size + 12 * k2 ≤ cost + 12 * k1 → Q1 v H4) →
      g x (wipe σ vs) H' fun σ2 H2 => wipe σ2 vs = wipe σ vs ∧ te σ2 H2 Q1)
    (hd : ∀ H acc ts k1, Kr h r H1 H → Gn H h c r k1 → H D = some (.lst acc) → DpAll K H acc (F ts) → ts.length = n → (∀ t ∈ ts, t.ok ∧ t.dep ≤ dm) → Tr.sizes ts + 12 * k1 ≤ cost * n + 12 * k → Qd H) :
    ∃ W : Nat → Nat → Hp → Prop, (∃ m, W 0 m (upd H1 D (.lst []))) ∧ ∀ i m H, W i m H →
      (I.stop i H ∧ Qd H) ∨ (I.go i H ∧ ∃ Nx : Hp → Prop, (∀ H', Nx H' → ∃ m', m' < m ∧ W (i + 1) m' H') ∧ ∀ x H', I.yld i H x H' → g x (wipe σ vs) H' fun σ2 H2 => wipe σ2 vs = wipe σ vs ∧ tYes σ2 H2 fun b H3 =>
        if b = true then te σ2 H3 fun y H4 => ∃ acc, H4 D = some (.lst acc) ∧ acc.length < sizeLine ∧ Nx (upd H4 D (.lst (acc ++ [y]))) else Nx H3) := by
  have nD := x0.hand.there hD
  have nDr : D ≠ r := (ne_of_none x0.rm hD).symm
  refine lc_drawJ (K := K) (M := fun a => a = h ∨ a = r) wk (fun i ds H => ∃ ts k1, ds = F ts ∧ Gn H h c r k1 ∧ ts.length = i ∧ (∀ t ∈ ts, t.ok ∧ t.dep ≤ dm) ∧ Tr.sizes ts + 12 * k1 ≤ cost * i + 12 * k) x0.lists
    ⟨[], k, F0.symm, (x0.same (same_new hD)).1, rfl, (fun _ m => by cases m), (by show 0 + 12 * k ≤ cost * 0 + 12 * k; omega)⟩ (fun i ds H ys _ j => ?_) hD hn (fun _ _ H kk _ => hG H kk) (fun i ds H j => ?_) ?_ ?_
  · obtain ⟨ts, k1, a1, a2, a3⟩ := j
    exact ⟨ts, k1, a1, a2.puts nD.1 nD.2 nDr, a3⟩
  · obtain ⟨ts, k1, rfl, _⟩ := j
    exact Fl ts
  · rintro i x ds H H' hi kk ⟨ts, k1, rfl, a2, a3, a4, a5⟩ y Q1 Q0 q1 q0
    refine hs i x k1 H H' hi kk a2 y Q1 fun v t k2 H4 k4 x4 hv ok dp sz => ?_
    refine q1 v H4 (E i t) k4 ⟨ts ++ [t], k2, ?_, x4, ?_, ?_, ?_⟩ hv
    · rw [FS ts t (by omega), a3]
    · rw [List.length_append, a3]; rfl
    · intro u hu
      rcases List.mem_append.mp hu with hu | hu
      · exact a4 u hu
      · cases List.mem_singleton.mp hu
        exact ⟨ok, dp⟩
    · rw [sizes_snoc, Nat.mul_succ]
      omega
  · rintro H acc ds kk ⟨ts, k1, rfl, a2, a3, a4, a5⟩ hacc ha
    exact hd H acc ts k1 kk a2 hacc ha a3 a4 a5
theorem encL_snoc (t : Tr) (ts : List Tr) : Tr.encL (ts ++ [t]) = Tr.encL ts ++ [t.enc] := by
  rw [encL_map, encL_map, List.map_append]
  rfl
/-- rows of names and trees -/
def rowsL (xs : List Str) (ts : List Tr) : List PyData := (xs.zip (Tr.encL ts)).map rowD
theorem rowsL_snoc {t : Tr} : ∀ {xs : List Str} {ts : List Tr}, ts.length < xs.length → rowsL xs (ts ++ [t]) = rowsL xs ts ++ [rowD ((xs[ts.length]?).getD "", t.enc)]
  | x :: xs, [], _ => by simp [rowsL, Tr.encL]
  | x :: xs, a :: ts, h => by
    have ih := rowsL_snoc (t := t) (xs := xs) (ts := ts) (by simpa using h)
    show rowD (x, a.enc) :: rowsL xs (ts ++ [t]) = rowD (x, a.enc) :: rowsL xs ts ++ _
    rw [ih]
    rfl
theorem rowsL_flat (xs : List Str) (ts : List Tr) : flatDs (rowsL xs ts) = true := flatDs_of _ fun d hd => by
  obtain ⟨p, hp, rfl⟩ := List.mem_map.mp hd
  have h := (List.of_mem_zip (show (p.1, p.2) ∈ xs.zip (Tr.encL ts) from hp)).2
  have := flatDs_all (flat_encL ts) _ h
  simp [rowD, flatD, flatDs, this]
end Cm

set_option linter.all false
/-! the names that forms bind -/
namespace Cm
open PySem L2 PySem.Spec PyProof.Rows
/-- the names that a form binds -/
def held : Hd → List Str
  | .fn xs => xs
  | .one w x => if w = "set" then [] else [x]
  | .bind _ xs => xs
  | _ => []
def isLet : Hd → Bool
  | .bind w _ => decide (w = "let")
  | _ => false
def isTak : Hd → Bool
  | .one w _ => !decide (w = "set")
  | _ => false
def isFn (h : Hd) : Bool := kd h == 4
def isName (h : Hd) : Bool := kd h == 1
/-- .. over the i-th of n parts -/
def under (h : Hd) (n i : Nat) : List Str := if isLet h = true ∧ i + 1 < n then [] else held h
def bnds (h : Hd) (n : Nat) : List PyData := (List.range n).map fun i => encs (under h n i)
theorem under_no {h : Hd} (e : isLet h = false) (n i : Nat) : under h n i = held h := by
  unfold under
  rw [e, if_neg (fun z => Bool.false_ne_true z.1)]
theorem bnds_no {h : Hd} (e : isLet h = false) (n : Nat) : bnds h n = List.replicate n (encs (held h)) := by
  unfold bnds
  have : (fun i => encs (under h n i)) = fun _ => encs (held h) := by
    funext i
    rw [under_no e]
  rw [this, List.map_const', List.length_range]
theorem bnds_let {h : Hd} (e : isLet h = true) (n : Nat) : bnds h (n + 1) = List.replicate n (encs []) ++ [encs (held h)] := by
  unfold bnds
  rw [List.range_succ, List.map_append]
  have h1 : (List.range n).map (fun i => encs (under h (n + 1) i)) = List.replicate n (encs []) := by
    have : (List.range n).map (fun i => encs (under h (n + 1) i)) = (List.range n).map (fun _ => encs []) := List.map_congr_left fun i hi => by
      have := List.mem_range.mp hi
      unfold under
      rw [if_pos ⟨e, by omega⟩]
    rw [this, List.map_const', List.length_range]
  rw [h1]
  congr 1
  show [encs (under h (n + 1) n)] = _
  unfold under
  rw [if_neg (fun z => by omega)]
theorem flat_bnds (h : Hd) (n : Nat) : flatDs (bnds h n) = true := flatDs_of _ fun d hd => by
  obtain ⟨i, _, rfl⟩ := List.mem_map.mp hd
  exact flat_strs _
theorem under_at {h : Hd} {n i : Nat} (hi : i < n) : (bnds h n)[i]? = some (encs (under h n i)) := by
  unfold bnds
  rw [List.getElem?_map, List.getElem?_range hi]
  rfl
theorem under_len {h : Hd} {m : Nat} (o : hok h m) (l : m ≤ 11) (n i : Nat) : (under h n i).length ≤ 100 := by
  unfold under
  split
  · exact Nat.zero_le _
  · cases h with
    | fn xs => exact o.2.1
    | one w x =>
      show (if w = "set" then [] else [x] : List Str).length ≤ 100
      split
      · exact Nat.zero_le _
      · exact (by decide : 1 ≤ 100)
    | bind w xs =>
      have := o.1
      show xs.length ≤ 100
      omega
    | _ => exact Nat.zero_le _
theorem held_sok {h : Hd} {m : Nat} (o : hok h m) : ∀ x ∈ held h, sok x := by
  cases h with
  | fn xs => exact o.2.2
  | one w x =>
    show ∀ y ∈ (if w = "set" then [] else [x] : List Str), sok y
    split
    · intro y hy; cases hy
    · intro y hy
      rw [List.mem_singleton.mp hy]
      exact o.2.2
  | bind w xs => exact o.2.2
  | _ => intro y hy; cases hy
section
variable {h : Hd} {n : Nat}
theorem eq_fn (o : hok h n) : decide (V.str (wd h) = V.str "fn") = isFn h := by
  rw [decS]
  exact by_kind (fun w => decide (w = "fn")) (fun k => k == 4) (by decide +kernel) o
theorem eq_name (o : hok h n) : decide (V.str (wd h) = V.str "name") = isName h := by
  rw [decS]
  exact by_kind (fun w => decide (w = "name")) (fun k => k == 1) (by decide +kernel) o
theorem in_T (o : hok h n) : inV (.str (wd h)) ((["keep", "once", "take"] : List Str).map V.str) = isTak h := by
  have other : kd h ≠ 3 → inV (.str (wd h)) ((["keep", "once", "take"] : List Str).map V.str) = false := fun q => by
    have key : ∀ c < 10, c ≠ 3 → ∀ w ∈ wordsOf c, inV (.str w) ((["keep", "once", "take"] : List Str).map V.str) = false := by decide +kernel
    exact key _ (wd_mem o).1 q _ (wd_mem o).2
  cases h with
  | one w x =>
    have key : ∀ w ∈ oneW, inV (.str w) ((["keep", "once", "take"] : List Str).map V.str) = !decide (w = "set") := by decide +kernel
    exact key w o.2.1
  | num i => exact other (Nat.ne_of_beq_eq_false rfl)
  | name i => exact other (Nat.ne_of_beq_eq_false rfl)
  | lit i => exact other (Nat.ne_of_beq_eq_false rfl)
  | fn i => exact other (Nat.ne_of_beq_eq_false rfl)
  | bind i _ => exact other (Nat.ne_of_beq_eq_false rfl)
  | doo => exact other (Nat.ne_of_beq_eq_false rfl)
  | call => exact other (Nat.ne_of_beq_eq_false rfl)
  | op i => exact other (Nat.ne_of_beq_eq_false rfl)
  | plain i => exact other (Nat.ne_of_beq_eq_false rfl)
theorem eq_set (o : hok h n) : decide (V.str (wd h) = V.str "set") = (kd h == 3 && !isTak h) := by
  have other : kd h ≠ 3 → decide (wd h = "set") = false := fun q => by
    have key : ∀ c < 10, c ≠ 3 → ∀ w ∈ wordsOf c, decide (w = ("set" : Str)) = false := by decide +kernel
    exact key _ (wd_mem o).1 q _ (wd_mem o).2
  rw [decS]
  cases h with
  | one w x =>
    show decide (w = "set") = (true && !(!decide (w = "set")))
    rw [Bool.not_not, Bool.true_and]
  | num i => exact other (Nat.ne_of_beq_eq_false rfl)
  | name i => exact other (Nat.ne_of_beq_eq_false rfl)
  | lit i => exact other (Nat.ne_of_beq_eq_false rfl)
  | fn i => exact other (Nat.ne_of_beq_eq_false rfl)
  | bind i _ => exact other (Nat.ne_of_beq_eq_false rfl)
  | doo => exact other (Nat.ne_of_beq_eq_false rfl)
  | call => exact other (Nat.ne_of_beq_eq_false rfl)
  | op i => exact other (Nat.ne_of_beq_eq_false rfl)
  | plain i => exact other (Nat.ne_of_beq_eq_false rfl)
theorem eq_let (o : hok h n) : decide (V.str (wd h) = V.str "let") = isLet h := by
  have other : kd h ≠ 5 → decide (wd h = "let") = false := fun q => by
    have key : ∀ c < 10, c ≠ 5 → ∀ w ∈ wordsOf c, decide (w = ("let" : Str)) = false := by decide +kernel
    exact key _ (wd_mem o).1 q _ (wd_mem o).2
  rw [decS]
  cases h with
  | bind w x => rfl
  | num i => exact other (Nat.ne_of_beq_eq_false rfl)
  | name i => exact other (Nat.ne_of_beq_eq_false rfl)
  | lit i => exact other (Nat.ne_of_beq_eq_false rfl)
  | fn i => exact other (Nat.ne_of_beq_eq_false rfl)
  | one i _ => exact other (Nat.ne_of_beq_eq_false rfl)
  | doo => exact other (Nat.ne_of_beq_eq_false rfl)
  | call => exact other (Nat.ne_of_beq_eq_false rfl)
  | op i => exact other (Nat.ne_of_beq_eq_false rfl)
  | plain i => exact other (Nat.ne_of_beq_eq_false rfl)
end
/-- the names that a tree names (or sets alone), as the form of a list -/
def own (sa : Bool) : Hd → List Str
  | .name x => if sa = true then [] else [x]
  | .one w x => if w = "set" then [x] else []
  | _ => []
mutual
def Tr.free (sa : Bool) : Tr → List Str
  | .mk h ps => own sa h ++ Tr.frees sa h ps.length 0 ps
def Tr.frees (sa : Bool) (h : Hd) (n : Nat) : Nat → List Tr → List Str
  | _, [] => []
  | i, t :: ts => (t.free sa).filter (fun x => !decide (x ∈ under h n i)) ++ Tr.frees sa h n (i + 1) ts
end
theorem frees_snoc (sa : Bool) (h : Hd) (n : Nat) (t : Tr) : ∀ (ts : List Tr) (i : Nat), Tr.frees sa h n i (ts ++ [t]) = Tr.frees sa h n i ts ++ (t.free sa).filter (fun x => !decide (x ∈ under h n (i + ts.length)))
  | [], i => by
    show (t.free sa).filter _ ++ [] = [] ++ _
    simp
  | a :: ts, i => by
    show (a.free sa).filter _ ++ Tr.frees sa h n (i + 1) (ts ++ [t]) = ((a.free sa).filter _ ++ Tr.frees sa h n (i + 1) ts) ++ _
    rw [frees_snoc sa h n t ts (i + 1), List.append_assoc, List.length_cons, show i + 1 + ts.length = i + (ts.length + 1) by omega]
theorem own_len (sa : Bool) (h : Hd) : (own sa h).length ≤ 1 := by
  cases h with
  | name x => show (if sa = true then [] else [x] : List Str).length ≤ 1; split <;> simp
  | one w x => show (if w = "set" then [x] else [] : List Str).length ≤ 1; split <;> simp
  | _ => exact Nat.zero_le _
mutual
theorem free_len (sa : Bool) : ∀ t : Tr, (t.free sa).length ≤ t.size
  | .mk h ps => by
    have h1 := own_len sa h
    have h2 := frees_len sa h ps.length 0 ps
    show (own sa h ++ Tr.frees sa h ps.length 0 ps).length ≤ Tr.sizes ps + 1
    rw [List.length_append]
    omega
theorem frees_len (sa : Bool) (h : Hd) (n : Nat) : ∀ (i : Nat) (ts : List Tr), (Tr.frees sa h n i ts).length ≤ Tr.sizes ts
  | _, [] => Nat.le_refl _
  | i, t :: ts => by
    have h1 := free_len sa t
    have h2 := frees_len sa h n (i + 1) ts
    have h3 := List.length_filter_le (fun x => !decide (x ∈ under h n i)) (t.free sa)
    show ((t.free sa).filter _ ++ Tr.frees sa h n (i + 1) ts).length ≤ t.size + Tr.sizes ts
    rw [List.length_append]
    omega
end
mutual
theorem free_sok (sa : Bool) : ∀ t : Tr, t.ok → ∀ x ∈ t.free sa, sok x
  | .mk h ps, o, x, m => by
    have o' : hok h ps.length ∧ ps.length ≤ 11 ∧ Tr.oks ps := o
    have m' : x ∈ own sa h ++ Tr.frees sa h ps.length 0 ps := m
    rcases List.mem_append.mp m' with m' | m'
    · cases h with
      | name y =>
        have m2 : x ∈ (if sa = true then [] else [y] : List Str) := m'
        split at m2
        · cases m2
        · rw [List.mem_singleton.mp m2]
          exact o'.1.2
      | one w y =>
        have m2 : x ∈ (if w = "set" then [y] else [] : List Str) := m'
        split at m2
        · rw [List.mem_singleton.mp m2]
          exact o'.1.2.2
        · cases m2
      | _ => cases m'
    · exact frees_sok sa h ps.length 0 ps o'.2.2 x m'
theorem frees_sok (sa : Bool) (h : Hd) (n : Nat) : ∀ (i : Nat) (ts : List Tr), Tr.oks ts → ∀ x ∈ Tr.frees sa h n i ts, sok x
  | _, [], _, _, m => by cases m
  | i, t :: ts, o, x, m => by
    have m' : x ∈ (t.free sa).filter (fun x => !decide (x ∈ under h n i)) ++ Tr.frees sa h n (i + 1) ts := m
    rcases List.mem_append.mp m' with m' | m'
    · exact free_sok sa t o.1 x (List.mem_filter.mp m').1
    · exact frees_sok sa h n (i + 1) ts o.2 x m'
end
end Cm

set_option linter.all false
/-! own exceptions that are made as values, their fields, isinstance of them -/
namespace Cm
open PySem L2 PySem.Spec PyProof.Rows
/-- a made exception with fields fs -/
def ExV (H : Hp) (a C : Addr) (fs : List (Str × V)) : Prop := ∃ d, H a = some (exo a C (some d)) ∧ H d = some (exd d fs)
theorem ExV.same {H H' : Hp} {a C : Addr} {fs : List (Str × V)} (x : ExV H a C fs) (s : Same H H') : ExV H' a C fs := by
  obtain ⟨d, e1, e2⟩ := x
  exact ⟨d, s _ _ e1, s _ _ e2⟩
/-- C(e, ..) as a value, C's own __init__ keeping sp -/
def tMkV (C : Addr) (sp : Sp) (ta : TA) : TE := fun σ H Q => ta σ H fun vs H1 => vs.length ≤ 1000 ∧ ∀ a, H1 a = Option.none → sp (.ref a :: vs) (upd H1 a (exo a C Option.none)) (fun v H2 => v = .non ∧ Q (.ref a) H2) E0
theorem pe_mkV {X : Cx} {x : Str} {C fI : Addr} {k : Nat} {fd : FuncData} {ps : List Str} {sp : Sp} {e : Expr} {es : List Expr} {ta : TA} {p pos : Pos} (T : OexC X.K C) (iC : PySem.W.findIn X.K (.ref C) "__init__" = some (some (.ref fI))) (tI : PySem.W.typeIn X.K (.ref fI) = some (.type "function"))
    (F1 : FnOk X.prog X.w X.K X.mg X.base CX0 k fI fd ps sp) (hr : Room (k + 1) X.A) (hb : Binds X.K fd ps []) (hg : Gl X x) (hm : X.mg x = some (.ref C)) (ha : PA X (e :: es) ta)
    (hdb : (x == ("__debug__" : Str)) = false := by decide) (he : starEach (e :: es) X.env = (false, eval e X.env) :: starEach es X.env := by rfl) (hpl : (backTo pos (starEach es X.env)).any (·.1) = false := by rfl) :
    PE X (.Call (.Name x p) (e :: es) [] pos) (tMkV C sp ta) := by
  refine ⟨fun pins s σ H Q I h => ?_⟩
  obtain ⟨nm, q, N, bs, bm, sn, sub, ab, col, dd, k0, k1, k2, k3, k5, hC, hbm⟩ := T.cls
  refine wpAny_Call_Name_kw (ld_glob I hg hm ?_ hdb)
  refine PySem.W.callWith_K (h₀ := X.base) I.ok.mod.kin T.kC (thn (ha.run pos pins s σ H _ I h) fun us s1 ⟨vs, H1, I1, r1, hz, q1⟩ => ⟨I1.kIn, ?_⟩) he hpl
  show wpAny _ _ (call (.ref C) us) _ _ _
  obtain ⟨hp, g, dr, tk, os⟩ := s1
  have hsz : hp.objs.size ≤ hp.objs.size + 1 := Nat.le_succ _
  have hq := q1 (hp.objs.size + 1) (I1.hok.fresh hsz)
  have hget : ((hp.push (PySem.W.kdv_tup us)).push (PySem.HandSPX.excO C hp.objs.size)).get? (hp.objs.size + 1) = some (PySem.HandSPX.excO C hp.objs.size) := by heap_get
  have I2 : Inv X pins σ (upd H1 (hp.objs.size + 1) (exo (hp.objs.size + 1) C Option.none)) ⟨(hp.push (PySem.W.kdv_tup us)).push (PySem.HandSPX.excO C hp.objs.size), g, dr, tk, os⟩ :=
    I1.laid (t' := tk) (a := hp.objs.size + 1) (o := exo (hp.objs.size + 1) C Option.none) (fun b o e => Heap.get?_push_of_some _ (Heap.get?_push_of_some _ e)) hsz (exo_ok hget)
  have r2 : Vals (V.ref (hp.objs.size + 1) :: vs) (Value.ref (hp.objs.size + 1) :: us) := .cons rfl r1
  have hl : (Value.ref (hp.objs.size + 1) :: us).length = ps.length := by
    have e := r2.length
    rw [F1.len _ _ _ _ hq] at e
    exact e.symm
  have hus : us.length ≤ sizeLine := by
    rw [← Paired.length r1, sizeLine_eq]
    omega
  have hbb := hb ⟨(hp.push (PySem.W.kdv_tup us)).push (PySem.HandSPX.excO C hp.objs.size), g, dr, tk, os⟩ (Value.ref (hp.objs.size + 1) :: us) I2.kIn (by rw [List.append_nil]; exact hl)
  rw [List.append_nil] at hbb
  refine wpAny_call (PySem.HandSPX.call_own F.excBase_ValueError (fun Y => PySem.HandSPX.refsVE_contains Y bm hbm) (I1.kIn _ _ hC) (PySem.W.looks_findIn I1.kIn iC) (fun self => PySem.W.bind_fn I1.kIn self tI) hus
    (codeAny_mono (F1.run _ X.stack _ _ ⟨Value.ref (hp.objs.size + 1) :: us, []⟩ (Value.ref (hp.objs.size + 1) :: us) _ _ E0 (hr.make C us []) (I2.env0.make C us []) hbb r2 hq) fun r s' hq' => ?_))
  cases r with
  | error er => exact pass0 pins σ _ _ er s' I2 hq'
  | ok fl =>
    cases fl with
    | ret u =>
      obtain ⟨v, H2, J, rv, ev, q2⟩ := I2.after hq'
      subst ev
      exact ⟨rv, .ref (hp.objs.size + 1), H2, J, rfl, q2⟩
    | next => exact False.elim hq'
    | brk => exact False.elim hq'
    | cont => exact False.elim hq'
/-! ### x.f -/
def tFldE (K : PySem.W.Frag) (f : Str) (te : TE) : TE := fun σ H Q => te σ H fun x H1 => ∃ (a C : Addr) (fs : List (Str × V)) (v : V), x = .ref a ∧ XfC K C ∧ PySem.W.findIn K (.ref C) f = some Option.none ∧ ExV H1 a C fs ∧ fs.lookup f = some v ∧ Q v H1
theorem pe_fldE {X : Cx} {e : Expr} {te : TE} {pos : Pos} {n : Str} (he : PE X e te) (hb : attributeBase e n X.env (eval e X.env) = eval e X.env := by rfl) : PE X (.Attribute e n pos) (tFldE X.K n te) := by
  refine ⟨fun pins s σ H Q I h => ?_⟩
  refine attr_of hb (thn (he.run pins s σ H _ I h) fun u s1 hh => ?_)
  obtain ⟨x, H1, I1, rx, a, C, fs, v, ex, T, hno, ⟨dd, eh, ea⟩, l, q⟩ := hh
  subst ex
  obtain rfl : u = Value.ref a := rx
  obtain ⟨t1, ho⟩ := exo_at I1.hok eh
  obtain ⟨mA, hns, hr⟩ := exd_at I1.hok ea
  obtain ⟨od, hod, hl⟩ := lookIn_ns hns
  obtain ⟨u, hu, ru⟩ := RelO.some_of (v := v) (o := mA n) (by rw [← l]; exact hr n)
  have J : PySem.W.InstAt s1.heap a { cls := .ref C, dict := some dd, data := .fields #[.ref t1, .none, .none, .none, .bool false, .none] } C (some od) := ⟨ho, rfl, rfl, hod⟩
  exact HandSPX.exc_get I1.kIn J T.ga T.gg T.exC (PySem.W.findObj_own T.hdC hno rfl (by rw [hl, hu])) (handed_of ru) ⟨v, H1, I1.tok _, ru, q⟩
end Cm
/-! ### isinstance(x, D), whichever class (after the library's rule for an exception without a dict) -/
namespace PySem.W
open PySem PySem.Spec PySem.Calls PyProof.Rows
theorem cls_ofExc {prog : Program} {w : World} {A : Around} {E : Value → Shared → Prop} {s : Shared} {K : Frag} {x D : Addr} {ox od : Obj} {Q : Option Value → Shared → Prop} (T : L2.ExcC K D) (X : K.In s.heap) (I : InstAt s.heap x ox D (some od))
    (h : Q (some (.ref D)) { s with toks := s.toks + 1 }) : wpAny (model prog w) A (getAttr? (.ref x) "__class__") Q E s := by
  have hf : findObj K D (some od) "__class__" = some (.bind (.builtin "getset_descriptor.__get__") (.builtin "object.__class__")) := findObj_data (by obtain ⟨cd, hc, _⟩ := any_some T.hd; rw [hc]; rfl) T.ha T.hn T.ht
  obtain ⟨hp, g, d, t, os⟩ := s
  have L0 := I.type (M := model prog w)
  have L1 := looks_findIn (M := model prog w) X T.hg
  have L2 := looks_findIn (M := model prog w) X T.hk
  have L3 := looks_find (M := model prog w) X I hf
  have sub : Looks (model prog w) hp (isInstance (.ref x) (.type "BaseException")) true := L0.andThen (looks_subIn X T.hs)
  have ne : (Value.builtin "BaseException.__getattribute__" == Value.builtin "object.__getattribute__") = false := by decide +kernel
  unfold getAttr? getAttrBy? getAttrBy
  refine wpAny_bind (wpAny_mkText (wpAny_bind (wpAny_attempt (wpAny_holding (wpAny_bind (L0.at (wpAny_bind (L1.at ?_))))))))
  show wpAny _ _ (if (onTheHeap (Value.ref D) && Value.builtin "BaseException.__getattribute__" == Value.builtin "object.__getattribute__") = true then _ else _) _ _ _
  rw [show (onTheHeap (Value.ref D) && Value.builtin "BaseException.__getattribute__" == Value.builtin "object.__getattribute__") = false by rw [ne]; rfl, if_neg Bool.false_ne_true]
  unfold getAttrByItsOwn hookBefore
  refine wpAny_bind ?_
  rw [if_pos (show onTheHeap (Value.ref D) = true from rfl)]
  refine L2.at (wpAny_bind (wpAny_attempt (wpAny_holding ?_)))
  unfold callGetattribute
  rw [show (false && onTheHeap (Value.builtin "BaseException.__getattribute__")) = false from rfl, if_neg Bool.false_ne_true]
  unfold boundAndCalled
  rw [PySem.F.excAttr_ValueError.ga.bind (.ref x)]
  refine wpAny_bind (wpAny_pure ?_)
  show wpAny _ _ (call (.builtin "BaseException.__getattribute__") [.ref x, .str "__class__" t]) _ _ _
  refine wpAny_call (codeAny_call_builtin PySem.F.excAttr_ValueError.ga.plain PySem.F.entry_bexc_ga ?_)
  refine @check_slot (model prog w) _ _ ⟨hp, g, d, t + 1, os⟩ "BaseException.__getattribute__" "BaseException" "__getattribute__" (.ref x) [.str "__class__" t] [] _ (by decide +kernel) (by decide +kernel) sub (PySem.F.args_bexc_ga (.ref x) (.str "__class__" t)) ?_
  unfold Builtin.«object.__getattribute__»
  refine wpAny_bind (wpAny_of_eq (a := ((Value.ref x : Value), [Value.str "__class__" t])) (by first | rfl | (simp only [slotArgs]; rfl)) ?_)
  refine wpAny_bind (wpAny_pure (wpAny_bind (L0.at (wpAny_bind (L3.at ?_)))))
  show wpAny _ _ (holding [Value.builtin "object.__class__"] (call (.builtin "getset_descriptor.__get__") [.builtin "object.__class__", .ref x, .ref D]) >>= ret) _ _ _
  refine wpAny_bind (wpAny_holding (wpAny_call (class_get (s := ⟨hp, g, d, t + 1, os⟩) (ox := ox) (od := some od) X I T.hm ?_)))
  refine wpAny_pure ?_
  show wpAny _ _ (handedOut (.ref D)) _ _ _
  rw [handedOut_of (v := .ref D) rfl]
  first
    | exact wpAny_pure (wpAny_pure h)
    | exact wpAny_pure h
    | exact wpAny_pure (wpAny_bind (wpAny_pure (wpAny_pure h)))
theorem kit_ofExc {K : Frag} {x D : Addr} {ox od : Obj} (T : L2.ExcC K D) : KitX K (.ref x) (.ref D) (fun h => InstAt h x ox D (some od)) where
  ty := fun _ _ _ I => I.type
  it := fun _ _ X _ => by
    obtain ⟨cdD, hcD, _⟩ := any_some T.hd
    unfold clsIn at hcD
    split at hcD
    · rename_i c' d' cd' sl' ho
      intro A' Q' E' s' k q
      unfold isType loadHead
      exact wpAny_bind (wpAny_loadPart (k _ _ (X _ _ ho)) (wpAny_pure q))
    · cases hcD
  ne := fun h tp dd its n sl X htp => by
    obtain ⟨cdD, hcD, _⟩ := any_some T.hd
    refine Bool.eq_false_iff.mpr fun q => ?_
    have e : D = tp := Value.ref.inj (beq_iff_eq.mp q)
    subst e
    unfold clsIn at hcD
    split at hcD
    · rename_i c' d' cd' sl' ho
      have z := (X _ _ ho).symm.trans htp
      cases z
    · cases hcD
  ca := fun X I k => cls_ofExc T X I k
end PySem.W
namespace Cm
open PySem L2 PySem.Spec PyProof.Rows
def rIsV (K : PySem.W.Frag) : List V → Hp → VK → Prop := fun xs H Q => ∃ (a C : Addr) (fs : List (Str × V)) (c : V) (cv : Value) (b : Bool), xs = [.ref a, c] ∧ ClsV c cv ∧ ExcC K C ∧ ExV H a C fs ∧ PySem.W.kitOne K (.ref C) cv = some b ∧ Q (.bl b) H
theorem call_isV {X : Cx} : CallR X (.builtin "isinstance") (rIsV X.K) := by
  intro pins s σ H xs us Q I r h
  obtain ⟨a, C, fs, c, cv, b, rfl, kc, T, ⟨dd, eh, ea⟩, e, q⟩ := h
  obtain ⟨u1, u2, rfl, r1, r2⟩ := vals2 r
  obtain rfl : u1 = Value.ref a := r1
  have e2 := kc.eq r2
  subst e2
  obtain ⟨t1, ho⟩ := exo_at I.hok eh
  obtain ⟨mA, hns, hr⟩ := exd_at I.hok ea
  obtain ⟨od, hod, hl⟩ := lookIn_ns hns
  have J : PySem.W.InstAt s.heap a { cls := .ref C, dict := some dd, data := .fields #[.ref t1, .none, .none, .none, .bool false, .none] } C (some od) := ⟨ho, rfl, rfl, hod⟩
  exact PySem.W.kia_one (PySem.W.kit_ofExc T) I.kIn J e (fun z => nomatch z) fun tk => ⟨.bl b, H, I.tok tk, rfl, q⟩
end Cm

set_option linter.all false
/-! classes of errors with fields: what is needed of each -/
namespace Cm
open PySem L2 PySem.Spec PyProof.Rows
/-- what an __init__ that stores its parameters leaves -/
def spI (K : PySem.W.Frag) (fl : List Str) : Sp := fun vs H Q _ => ∃ (a C : Addr) (xs : List V), vs = .ref a :: xs ∧ xs.length = fl.length ∧ OexC K C ∧ (∀ f ∈ fl, PySem.W.findIn K (.ref C) f = some Option.none) ∧ H a = some (exo a C Option.none) ∧
  ∀ (d : Addr) (H' : Hp), H d = Option.none → d ≠ a → (∀ b o, b ≠ a → H b = some o → H' b = some o) → H' a = some (exo a C (some d)) → H' d = some (exd d (fl.zip xs).reverse) → Q .non H'
structure Mk (P : Program) (w : World) (K : PySem.W.Frag) (mg : Str → Option Value) (base : Heap) (C : Addr) (x : Str) (fl : List Str) : Prop where
  oex : OexC K C
  g : mg x = some (.ref C)
  xf : XfC K C
  ec : ExcC K C
  no : ∀ f ∈ fl, PySem.W.findIn K (.ref C) f = some Option.none
  init : ∃ (fI : Addr) (fd : FuncData) (ps : List Str), PySem.W.findIn K (.ref C) "__init__" = some (some (.ref fI)) ∧ PySem.W.typeIn K (.ref fI) = some (.type "function") ∧ FnOk P w K mg base CX0 1 fI fd ps (spI K fl) ∧ Binds K fd ps []
def tMk (C : Addr) (fl : List Str) (ta : TA) : TE := fun σ H Q => ta σ H fun vs H1 => vs.length = fl.length ∧ ∀ a H', Same H1 H' → ExV H' a C (fl.zip vs).reverse → Q (.ref a) H'
theorem pe_mk {X : Cx} {x : Str} {C : Addr} {fl : List Str} {j : Nat} {e : Expr} {es : List Expr} {ta : TA} {p pos : Pos} (M : Mk X.prog X.w X.K X.mg X.base C x fl) (hr : Room j X.A) (hk : 2 ≤ j) (hl : fl.length ≤ 1000) (hg : Gl X x) (ha : PA X (e :: es) ta)
    (hdb : (x == ("__debug__" : Str)) = false := by decide) (he : starEach (e :: es) X.env = (false, eval e X.env) :: starEach es X.env := by rfl) (hpl : (backTo pos (starEach es X.env)).any (·.1) = false := by rfl) :
    PE X (.Call (.Name x p) (e :: es) [] pos) (tMk C fl ta) := by
  obtain ⟨fI, fd, ps, h1, h2, F, b⟩ := M.init
  have ha' : PA X (e :: es) (fun σ H Q => ∃ Q0, ta σ H Q0 ∧ ∀ vs H1, Q0 vs H1 → Q vs H1) := ⟨fun pos pins s σ H Q I ⟨Q0, h0, imp⟩ =>
    wpAny_mono (ha.run pos pins s σ H Q0 I h0) (fun us s1 ⟨vs, H1, I1, r, q⟩ => ⟨vs, H1, I1, r, imp _ _ q⟩) (fun _ _ z => z)⟩
  have R := pe_mkV (p := p) (pos := pos) M.oex h1 h2 F (hr.mono hk) b hg M.g ha' hdb he hpl
  refine ⟨fun pins s σ H Q I h => R.run pins s σ H Q I ⟨_, h, fun vs H1 ⟨hv, hq⟩ => ⟨by omega, fun a ha0 => ?_⟩⟩⟩
  refine ⟨a, C, vs, rfl, hv, M.oex, M.no, upd_same, fun d H' _ _ keep ea ed => ⟨rfl, hq a H' (fun b o q => ?_) ⟨d, ea, ed⟩⟩⟩
  have hb : b ≠ a := fun z => by
    rw [z, ha0] at q
    cases q
  exact keep b o hb (by rw [upd_ne hb]; exact q)
/-- self.f = x, then perhaps self.g = y -/
theorem init1 {K : PySem.W.Frag} {H : Hp} {a C : Addr} {f : Str} {x : V} {Q : Hp → Prop} (T : OexC K C) (no : PySem.W.findIn K (.ref C) f = some Option.none) (ha : H a = some (exo a C Option.none))
    (k : ∀ (d : Addr) (H' : Hp), H d = Option.none → d ≠ a → (∀ b o, b ≠ a → H b = some o → H' b = some o) → H' a = some (exo a C (some d)) → H' d = some (exd d [(f, x)]) → Q H') :
    ∃ a' C', V.ref a = .ref a' ∧ OexC K C' ∧ PySem.W.findIn K (.ref C') f = some Option.none ∧ ((H a' = some (exo a' C' Option.none) ∧ ∀ dx, H dx = Option.none → dx ≠ a' → Q (upd (upd H dx (exd dx [(f, x)])) a' (exo a' C' (some dx)))) ∨
      ∃ (dx : Addr) (fs : List (Str × V)), H a' = some (exo a' C' (some dx)) ∧ H dx = some (exd dx fs) ∧ fs.length ≤ 900 ∧ Q (upd H dx (exd dx ((f, x) :: fs)))) :=
  ⟨a, C, rfl, T, no, .inl ⟨ha, fun dx hd ne => k dx _ hd ne (fun b o hb e => by rw [upd_ne hb, upd_ne (ne_of_none e hd)]; exact e) upd_same (by rw [upd_ne ne]; exact upd_same)⟩⟩
theorem init2 {K : PySem.W.Frag} {H : Hp} {a C d : Addr} {g : Str} {y : V} {fs : List (Str × V)} {Q : Hp → Prop} (T : OexC K C) (no : PySem.W.findIn K (.ref C) g = some Option.none) (ha : H a = some (exo a C (some d))) (hd : H d = some (exd d fs)) (hl : fs.length ≤ 900) (ne : d ≠ a)
    (k : (∀ b o, b ≠ d → H b = some o → (upd H d (exd d ((g, y) :: fs))) b = some o) → Q (upd H d (exd d ((g, y) :: fs)))) :
    ∃ a' C', V.ref a = .ref a' ∧ OexC K C' ∧ PySem.W.findIn K (.ref C') g = some Option.none ∧ ((H a' = some (exo a' C' Option.none) ∧ ∀ dx, H dx = Option.none → dx ≠ a' → Q (upd (upd H dx (exd dx [(g, y)])) a' (exo a' C' (some dx)))) ∨
      ∃ (dx : Addr) (fs : List (Str × V)), H a' = some (exo a' C' (some dx)) ∧ H dx = some (exd dx fs) ∧ fs.length ≤ 900 ∧ Q (upd H dx (exd dx ((g, y) :: fs)))) :=
  ⟨a, C, rfl, T, no, .inr ⟨d, fs, ha, hd, hl, k fun b o hb e => by rw [upd_ne hb]; exact e⟩⟩
end Cm

set_option linter.all false
/-! an error without arguments; isinstance of errors of any kind -/
namespace Cm
open PySem L2 PySem.Spec PyProof.Rows
theorem pe_exc0 {X : Cx} {C : Addr} {bmB : List Value} {B newId initId : String} {x : Str} {p pos : Pos} (F : ExcBaseFacts B newId initId bmB) (q : PySem.W.excIn X.K C bmB newId = true) (gC : X.mg x = some (.ref C)) (kC : PySem.W.keepIn X.K (.ref C) = true) (hg : Gl X x)
    (hdb : (x == ("__debug__" : Str)) = false := by decide) :
    PE X (.Call (.Name x p) [] [] pos) (fun _ H Q => ∀ a, H a = Option.none → Q (.ref a) (upd H a (ExO (.ref C) a))) := by
  refine ⟨fun pins s σ H Q I h => ?_⟩
  refine wpAny_Call_Name_kw (ld_glob I hg gC ?_ hdb)
  refine PySem.W.callWith_K0 I.kIn kC ?_
  show wpAny _ _ (call (.ref C) []) _ _ _
  obtain ⟨bm, N, nm, qn, bs, hdct, sn, sub, ab, col, dd, k0, k1, k2, k3, k5, mN, hC, hN, hni, T⟩ := exc_obj I.kIn q
  refine wpAny_call_exc_subT F T hC hN hni (fun h' a hm => ?_) (by show 0 ≤ sizeLine; rw [sizeLine_eq]; omega)
  have hn : H a = Option.none := I.hok.gone hm.new
  obtain ⟨t, ht, _, _⟩ := hm.there
  exact ⟨.ref a, upd H a (ExO (.ref C) a), I.laidN hm.keeps hm.new hn (exO_ok ht ⟨rfl, rfl⟩ rfl rfl rfl (show 4 < 6 by decide)), rfl, h a hn⟩
/-- an error: with a dict, without, or kept behind a try -/
def ExA (H : Hp) (a C : Addr) : Prop := (∃ fs, ExV H a C fs) ∨ H a = some (ExO (.ref C) a) ∨ ∃ dd fs, H a = some (ExH a (.ref C) (some dd)) ∧ H dd = some (.xd fs)
theorem ExA.same {H H' : Hp} {a C : Addr} (x : ExA H a C) (s : Same H H') : ExA H' a C := by
  rcases x with ⟨fs, x⟩ | x | ⟨dd, fs, x, y⟩
  · exact .inl ⟨fs, x.same s⟩
  · exact .inr (.inl (s _ _ x))
  · exact .inr (.inr ⟨dd, fs, s _ _ x, s _ _ y⟩)
def rIsA (K : PySem.W.Frag) : List V → Hp → VK → Prop := fun xs H Q => ∃ (a C : Addr) (c : V) (cv : Value) (b : Bool), xs = [.ref a, c] ∧ ClsV c cv ∧ ExcC K C ∧ ExA H a C ∧ PySem.W.kitOne K (.ref C) cv = some b ∧ Q (.bl b) H
theorem call_isA {X : Cx} : CallR X (.builtin "isinstance") (rIsA X.K) := by
  intro pins s σ H xs us Q I r h
  obtain ⟨a, C, c, cv, b, rfl, kc, T, x, e, q⟩ := h
  rcases x with ⟨fs, x⟩ | x | ⟨dd, fs, eh, ea⟩
  · exact call_isV pins s σ H _ us Q I r ⟨a, C, fs, c, cv, b, rfl, kc, T, x, e, q⟩
  · obtain ⟨u1, u2, rfl, r1, r2⟩ := vals2 r
    obtain rfl : u1 = Value.ref a := r1
    have e2 := kc.eq r2
    subst e2
    have hx : ObjOk X.prog X.w H s.heap a (ExO (.ref C) a) := I.hok a _ x
    obtain ⟨oe, vs, ho, hz, hd, _⟩ := hx.1
    have J : PySem.W.InstAt s.heap a oe C Option.none := ⟨ho, hz.1, by unfold PySem.W.notCls; rw [hd] <;> rfl, by rw [hz.2]; trivial⟩
    exact PySem.W.kia_one (PySem.W.handS_kitx_exc T.hg T.hk T.hs T.hd T.ha T.hn T.ht T.hm) I.kIn J e (fun z => nomatch z) fun tk => ⟨.bl b, H, I.tok tk, rfl, q⟩
  · obtain ⟨u1, u2, rfl, r1, r2⟩ := vals2 r
    obtain rfl : u1 = Value.ref a := r1
    have e2 := kc.eq r2
    subst e2
    obtain ⟨oe, vs, ho, hz, hd⟩ := exH_at I.hok eh
    have hx : ObjOk X.prog X.w H s.heap dd (.xd fs) := I.hok dd _ ea
    obtain ⟨mA, hns, hr⟩ := hx
    obtain ⟨od, hod, hl⟩ := lookIn_ns hns
    have J : PySem.W.InstAt s.heap a oe C (some od) := ⟨ho, hz.1, by unfold PySem.W.notCls; rw [hd] <;> rfl, by rw [hz.2]; exact hod⟩
    exact PySem.W.kia_one (PySem.W.kit_ofExc T) I.kIn J e (fun z => nomatch z) fun tk => ⟨.bl b, H, I.tok tk, rfl, q⟩
end Cm

set_option linter.all false
/-! raise C(x, ..); try with two clauses of which the second catches and keeps -/
namespace Cm
open PySem L2 PySem.Spec PyProof.Rows
def tRaiseMk (C : Addr) (fl : List Str) (W : WX) (ta : TA) : TS := fun _ σ H => ta σ H fun vs H1 => vs.length = fl.length ∧ ∀ (d : Addr) (H' : Hp), Same H1 H' → H' d = some (.xd (fl.zip vs).reverse) → W (.ref C) (some d) σ H'
theorem ps_raiseMk {X : Cx} {x : Str} {C : Addr} {fl : List Str} {j : Nat} {W : WX} {e : Expr} {es : List Expr} {ta : TA} {p pos pos2 : Pos} (hc : X.calm = true) (M : Mk X.prog X.w X.K X.mg X.base C x fl) (hr : Room j X.A) (hk : 2 ≤ j) (hl : fl.length ≤ 1000) (tk : Takes X W) (hg : Gl X x) (ha : PA X (e :: es) ta)
    (hdb : (x == ("__debug__" : Str)) = false := by decide) (he : starEach (e :: es) X.env = (false, eval e X.env) :: starEach es X.env := by rfl) (hpl : (backTo pos (starEach es X.env)).any (·.1) = false := by rfl) :
    PS X (.Raise (some (.Call (.Name x p) (e :: es) [] pos)) Option.none pos2) (tRaiseMk C fl W ta) := by
  obtain ⟨fI, fd, ps, h1, h2, F, b⟩ := M.init
  have ha' : PA X (e :: es) (fun σ H Q => ∃ Q0, ta σ H Q0 ∧ ∀ vs H1, Q0 vs H1 → Q vs H1) := ⟨fun pos pins s σ H Q I ⟨Q0, h0, imp⟩ =>
    wpAny_mono (ha.run pos pins s σ H Q0 I h0) (fun us s1 ⟨vs, H1, I1, r, q⟩ => ⟨vs, H1, I1, r, imp _ _ q⟩) (fun _ _ z => z)⟩
  have R := ps_raise (pos := pos2) hc tk (pmk_oex (p := p) (pos := pos) M.oex h1 h2 F (hr.mono hk) b .nil (fun _ _ _ _ _ _ _ z => z.elim) hg M.g ha' hdb he hpl)
  refine ⟨fun pins s σ H D I h => R.run pins s σ H D I ⟨_, h, fun vs H1 ⟨hv, hq⟩ => ⟨by omega, fun a ha0 => ?_⟩⟩⟩
  refine ⟨a, C, vs, by rw [List.append_nil], hv, M.oex, M.no, upd_same, fun d H' hd ne keep ea ed => ⟨rfl, d, _, ea, ed, ?_, ?_⟩⟩
  · rw [upd_ne ne] at hd
    exact hd
  · have hd1 : H1 d = Option.none := by rw [upd_ne ne] at hd; exact hd
    refine hq d _ (fun b o q => ?_) upd_same
    have hb : b ≠ a := fun z => by
      rw [z, ha0] at q
      cases q
    rw [upd_ne (ne_of_none q hd1), del_ne hb]
    exact keep b o hb (by rw [upd_ne hb]; exact q)
/-- .. of two clauses, the second catches -/
def wHeld2 (K : PySem.W.Frag) (c1 c : Value) (i : Nat) (ts : Addr → TS) (D : Ends) : WX := fun cls d σ H =>
  PySem.W.exmOne K cls c1 = some false ∧ PySem.W.exmOne K cls c = some true ∧ ∀ a, H a = Option.none → ts a { nx := fun σ' H' => D.nx (σ'.set i Option.none) H', rt := D.rt, bk := fun σ' H' => D.bk (σ'.set i Option.none) H', ct := fun σ' H' => D.ct (σ'.set i Option.none) H' } (σ.set i (some (.ref a))) (upd H a (ExH a cls d))
section
variable {X : Cx} {x n x1 n1 : Str} {c c1 : Value} {i : Nat} {body suite suite1 : List Stmt} {b₀ b1 : Stmt} {np pos pos' np1 pos1 : Pos} {tb : WX → TS} {ts : Addr → TS}
theorem ps_try_held2 (hs : X.stack = X.env :: X.outer) (hf : X.env.frame = some X.env.locals) (hN : X.N.Nodup) (hi : X.N[i]? = some n) (hln : X.env.kindOf n = some .local) (hc1 : Names X x1 c1) (hc : Names X x c) (hex : X.ex = [])
    (hb : ∀ (W : WX) (pn : List (Addr × Obj)) (xe : Value → Shared → Prop), Takes (X.tr pn xe) W → PassesOwn (model X.prog X.w) X.A X.env xe → PSs (X.tr pn xe) body (tb W))
    (hsu : ∀ (a : Addr) (pn : List (Addr × Obj)), PSs (X.suite a pn) (b₀ :: suite) (ts a)) :
    PS X (.Try body [.ExceptHandler (some (.Name x1 np1)) (some n1) (b1 :: suite1) pos1, .ExceptHandler (some (.Name x np)) (some n) (b₀ :: suite) pos'] [] [] pos) (fun D σ H => tb (wHeld2 X.K c1 c i ts D) D σ H) := by
  refine ⟨fun pins s σ H D I h => ?_⟩
  have ok := I.ok
  have hfr : X.A.frames = some (X.env :: X.outer) := by rw [ok.frames, hs]
  refine wpAny_Try_except ?_
  refine wpAny_mono ((hb (wHeld2 X.K c1 c i ts D) (X.pn ++ pins) (fun e s₁ => wpAny (model X.prog X.w) X.A (noteFrame e X.env) (fun _ s₂ => wpAny (model X.prog X.w) X.A (setFlight e Option.none) (fun _ s₃ =>
    wpAny (model X.prog X.w) X.A (handleBy e X.env [.ExceptHandler (some (.Name x1 np1)) (some n1) (b1 :: suite1) pos1, .ExceptHandler (some (.Name x np)) (some n) (b₀ :: suite) pos']) (SP X pins D) X.xe s₃) X.xe s₂) X.xe s₁) (fun u s' xx => ?_) PassesOwn.looking).run [] s σ H D (I.toTry _) h) (fun f s1 hsp => ?_) (fun e s1 he => he)
  · obtain ⟨a, B, sI, pins', σ', H', cls, d, rfl, J', nb, up, sky, na, os, ag, hb0, hb1, hyes⟩ := xx
    have J : Inv X pins σ' H' sI := J'.ofTry ok
    have sky' : Sky B (X.env :: X.outer) a (Zc cls d) X.env.locals s'.heap := by rw [← hs]; exact sky
    show wpAny _ _ (noteFrame (.ref a) X.env) _ _ _
    refine Sky.land Zc.steady hfr hf sky' fun h3 fl3 up3 => ?_
    have J3 : Inv X pins σ' H' { s' with heap := h3 } := J.landed nb fl3.1 (up.trans up3) os ag
    obtain ⟨oe3, vs3, he3, hz3, hd3⟩ := fl3.there
    have nfr : a ∉ frs X.stack := fun hm => by
      rw [hs] at hm
      obtain ⟨_, o', e', hnf⟩ := fl3.2.2.1.mem hm
      rw [he3] at e'
      cases e'
      exact hnf _ hd3
    have nsI : sI.heap.get? a = Option.none := by
      cases q : sI.heap.get? a with
      | none => rfl
      | some o =>
        have z := nb a o q nfr
        rw [fl3.2.1] at z
        cases z
    have n0 : X.s_0.heap.get? a = Option.none := by
      cases q : X.s_0.heap.get? a with
      | none => rfl
      | some o =>
        obtain ⟨o', z⟩ := J.base.there a o q (by rw [hex]; exact List.not_mem_nil)
        rw [nsI] at z
        cases z
    have nL : a ≠ X.env.locals := fun z => nfr (by
      rw [hs]
      exact List.mem_filterMap.mpr ⟨X.env, List.mem_cons_self, by rw [hf, z]⟩)
    have nC : ∀ y c, X.env.cells.lookup y = some c → c ≠ a := fun y c e z => by
      obtain ⟨v, o, ho, _⟩ := J.cell y c e
      rw [z, nsI] at ho
      cases ho
    have nP : ∀ p ∈ X.pn ++ pins, p.1 ≠ a := fun p hp z => by
      have q := (J.pin p hp).1
      rw [z, nsI] at q
      cases q
    have S3 := suite0 J3 a
    refine wpAny_handleBy_cons (codeAny_handlers_test ?_) (by intro q; cases q)
    have LT : PySem.W.Looks (model X.prog X.w) h3 (typeOf (.ref a)) cls := fun A Q E s k q => wpAny_typeOf_ref (k _ _ he3) (by rw [hz3.1]; exact q)
    have LM0 := PySem.W.exm_one (M := model X.prog X.w) (J3.kIn) LT hb0
    have test1 : ∀ {Q : Value → Shared → Prop} {E : Value → Shared → Prop}, Q c1 { s' with heap := h3 } → wpAny (model X.prog X.w) (X.A.mark (some (.ref a))) (eval (.Name x1 np1) X.env) Q E { s' with heap := h3 } := fun {Q E} q => by
      obtain ⟨hg, hdbg, hm | ⟨hm, hv, hnn⟩⟩ := hc1
      · exact ld_glob (X := X.suite a (X.pn ++ pins)) S3 hg hm q hdbg
      · exact ld_blt (X := X.suite a (X.pn ++ pins)) S3 hg hm hv q hnn hdbg
    refine test1 (LM0.here ?_)
    show wpAny _ X.A (handleBy (.ref a) X.env [.ExceptHandler (some (.Name x np)) (some n) (b₀ :: suite) pos']) _ _ _
    refine wpAny_handleBy_cons (codeAny_handlers_test ?_) (by intro q; cases q)
    have LM := PySem.W.exm_one (M := model X.prog X.w) (J3.kIn) LT hb1
    have test : ∀ {Q : Value → Shared → Prop} {E : Value → Shared → Prop}, Q c { s' with heap := h3 } → wpAny (model X.prog X.w) (X.A.mark (some (.ref a))) (eval (.Name x np) X.env) Q E { s' with heap := h3 } := fun {Q E} q => by
      obtain ⟨hg, hdbg, hm | ⟨hm, hv, hnn⟩⟩ := hc
      · exact ld_glob (X := X.suite a (X.pn ++ pins)) S3 hg hm q hdbg
      · exact ld_blt (X := X.suite a (X.pn ++ pins)) S3 hg hm hv q hnn hdbg
    refine test (LM.here ?_)
    refine codeAny_handlers_suite_as ?_
    refine HandSPX.lands_againZ fl3 fun h4 fl4 up4 => ?_
    have J4 : Inv X pins σ' H' { s' with heap := h4 } := J.landed nb fl4.1 ((up.trans up3).trans up4) os ag
    obtain ⟨oe4, vs4, he4, hz4, hd4⟩ := fl4.there
    have T4 := track (o := ExH a cls d) J4 na n0 nL nC nP (exH_ok he4 hz4 hd4)
    have S4 := suite0 T4 a
    refine store_ok (X := X.suite a (X.pn ++ pins)) (v := .ref a) S4 hN hi (.inl hln) rfl (fun s5 S5 => ?_) (.inr hln)
    refine wpAny_mono ((hsu a (X.pn ++ pins)).run [] s5 _ _ _ S5 (hyes a na)) (fun f s6 hsp => ?_) (fun _ _ z => False.elim z)
    have end_ : ∀ {σ6 : L2.St} {H6 : Hp} {Q : Shared → Prop}, Inv (X.suite a (X.pn ++ pins)) [] σ6 H6 s6 → (∀ s7, Inv X pins (σ6.set i Option.none) H6 s7 → Q s7) →
        wpAny (model X.prog X.w) X.A (do bindName X.env n .none; unbindBehindTheSuite X.env n pos') (fun _ s7 => Q s7) X.xe s6 := fun {σ6 H6 Q} S6 hq => gone_ok (unsuite0 S6 ok) hN hi hln hq
    cases f with
    | next =>
      obtain ⟨σ6, H6, S6, q6⟩ := hsp
      exact end_ S6 fun s7 J7 => ⟨_, _, J7, q6⟩
    | brk =>
      obtain ⟨σ6, H6, S6, q6⟩ := hsp
      exact end_ S6 fun s7 J7 => ⟨_, _, J7, q6⟩
    | cont =>
      obtain ⟨σ6, H6, S6, q6⟩ := hsp
      exact end_ S6 fun s7 J7 => ⟨_, _, J7, q6⟩
    | ret u =>
      obtain ⟨v6, σ6, H6, S6, r6, q6⟩ := hsp
      exact end_ S6 fun s7 J7 => ⟨_, _, _, J7, r6, q6⟩
  · cases f with
    | next =>
      obtain ⟨σ', H', J', q⟩ := hsp
      exact wpAny_execs_nil ⟨σ', H', J'.ofTry ok, q⟩
    | brk =>
      obtain ⟨σ', H', J', q⟩ := hsp
      exact ⟨σ', H', J'.ofTry ok, q⟩
    | cont =>
      obtain ⟨σ', H', J', q⟩ := hsp
      exact ⟨σ', H', J'.ofTry ok, q⟩
    | ret u =>
      obtain ⟨v, σ', H', J', r, q⟩ := hsp
      exact ⟨v, σ', H', J'.ofTry ok, r, q⟩
end
end Cm

set_option linter.all false
/-! defs that raise, called by name; the first wrong name of a tree -/
namespace Cm
open PySem L2 PySem.Spec PyProof.Rows
structure ClX (P : Program) (w : World) (K : PySem.W.Frag) (mg : Str → Option Value) (base : Heap) (k : Nat) (x : Str) (sp : Sp) : Prop where
  ex : ∃ (f : Addr) (fd : FuncData) (ps : List Str), FnOk P w K mg base (L2.CX P w) k f fd ps sp ∧ mg x = some (.ref f) ∧ PySem.W.keepIn K (.ref f) = true ∧ Binds K fd ps []
section
variable {P : Program} {w : World} {K : PySem.W.Frag} {mg : Str → Option Value} {base : Heap}
theorem clX_of {x : Str} {st : Stmt} {N ps : List Str} {k : Nat} {sp : Sp} (T : At K mg x st ps) (S : FnScope N ps (defScope st))
    (len : ∀ vs H Q E, sp vs H Q E → vs.length = ps.length)
    (hb : ∀ (f : Addr) (cdv : Value) (A : Around) (outer : List Env) (s : Shared) (H : Hp) (vs : List V) (Q : VK) (E : XK),
      Room k (A.deeper (envOfC x (defScope st) s.heap.objs.size f cdv)) → sp vs H Q E →
      ∃ t, PSs (cxOf (L2.CX P w) P w K mg base N x (defScope st) f cdv A outer s H E) (defBody st) t ∧ t { nx := fun _ H' => Q .non H', rt := Q } (start N vs) H) :
    ClX P w K mg base (k + 1) x sp := by
  obtain ⟨f, fd, F, hm, b⟩ := T.ex
  exact ⟨f, fd, ps, F.okX S len (hb f), hm, F.kp, b⟩
end
section
variable {X : Cx} {j k : Nat} {x : Str} {sp : Sp} {e : Expr} {es : List Expr} {t : TA} {p pos : Pos}
/-- a call that lets nothing out -/
theorem pe_cL (c : ClX X.prog X.w X.K X.mg X.base k x sp) (hr : Room j X.A) (hk : k ≤ j) (hg : Gl X x) (ha : PA X (e :: es) t)
    (hdb : (x == ("__debug__" : Str)) = false := by decide) (he : starEach (e :: es) X.env = (false, eval e X.env) :: starEach es X.env := by rfl)
    (hpl : (backTo pos (starEach es X.env)).any (·.1) = false := by rfl) : PE X (.Call (.Name x p) (e :: es) [] pos) (tCall sp [] E0 t) := by
  obtain ⟨f, fd, ps, F, hm, kp, b⟩ := c.ex
  exact pe_call F (hr.mono hk) hg hm kp b .nil passL ha hdb he hpl
/-- a call in a try -/
theorem pe_cS {W : WX} (c : ClX X.prog X.w X.K X.mg X.base k x sp) (hr : Room j X.A) (hk : k ≤ j) (hg : Gl X x) (tk : Takes X W) (ha : PA X (e :: es) t)
    (hdb : (x == ("__debug__" : Str)) = false := by decide) (he : starEach (e :: es) X.env = (false, eval e X.env) :: starEach es X.env := by rfl)
    (hpl : (backTo pos (starEach es X.env)).any (·.1) = false := by rfl) : PE X (.Call (.Name x p) (e :: es) [] pos) (tCallS sp (WE W) t) := by
  obtain ⟨f, fd, ps, F, hm, kp, b⟩ := c.ex
  exact pe_callS F (hr.mono hk) hg hm kp b (fun σ => passAt tk σ) ha hdb he hpl
end

/-- the first text that stands a second time -/
def twice (pre : List Str) : List Str → Option Str
  | [] => none
  | x :: r => if x ∈ pre then some x else twice (pre ++ [x]) r
theorem twice_sok : ∀ (xs pre : List Str) {x : Str}, twice pre xs = some x → x ∈ xs
  | [], _, _, h => by cases h
  | y :: r, pre, x, h => by
    have h' : (if y ∈ pre then some y else twice (pre ++ [y]) r) = some x := h
    split at h'
    · cases h'
      exact List.mem_cons_self
    · exact List.mem_cons_of_mem _ (twice_sok r _ h')
mutual
/-- the first wrong name, in reading order -/
def Tr.wrong (known : List Str) : Tr → Option (Str × Str)
  | .mk h ps => match (own false h).filter (fun x => !decide (x ∈ known)) with
    | x :: _ => some ("unknown", x)
    | [] => match twice [] (held h) with
      | some x => some ("twice", x)
      | none => Tr.wrongs known h ps.length 0 ps
def Tr.wrongs (known : List Str) (h : Hd) (n : Nat) : Nat → List Tr → Option (Str × Str)
  | _, [] => none
  | i, t :: ts => match t.wrong (known ++ under h n i) with
    | some e => some e
    | none => Tr.wrongs known h n (i + 1) ts
end
mutual
theorem wrong_sok : ∀ (t : Tr) (known : List Str) (e : Str × Str), t.ok → t.wrong known = some e → sok e.1 ∧ sok e.2
  | .mk h ps, known, e, o, w => by
    have o' : hok h ps.length ∧ ps.length ≤ 11 ∧ Tr.oks ps := o
    have w' : (match (own false h).filter (fun x => !decide (x ∈ known)) with
      | x :: _ => some ("unknown", x)
      | [] => match twice [] (held h) with
        | some x => some ("twice", x)
        | none => Tr.wrongs known h ps.length 0 ps) = some e := w
    split at w'
    · rename_i x r q
      cases w'
      refine ⟨show sok "unknown" by decide +kernel, ?_⟩
      have m : x ∈ (own false h).filter (fun x => !decide (x ∈ known)) := by rw [q]; exact List.mem_cons_self
      have m2 : x ∈ (Tr.mk h ps).free false := List.mem_append_left _ (List.mem_filter.mp m).1
      exact free_sok false (.mk h ps) o x m2
    · split at w'
      · rename_i x q
        cases w'
        exact ⟨show sok "twice" by decide +kernel, held_sok o'.1 x (twice_sok _ _ q)⟩
      · exact wrongs_sok 0 ps known h ps.length e o'.2.2 w'
theorem wrongs_sok : ∀ (i : Nat) (ts : List Tr) (known : List Str) (h : Hd) (n : Nat) (e : Str × Str), Tr.oks ts → Tr.wrongs known h n i ts = some e → sok e.1 ∧ sok e.2
  | _, [], _, _, _, _, _, w => by cases w
  | i, t :: ts, known, h, n, e, o, w => by
    have w' : (match t.wrong (known ++ under h n i) with
      | some e => some e
      | none => Tr.wrongs known h n (i + 1) ts) = some e := w
    split at w'
    · rename_i e' q
      cases w'
      exact wrong_sok t _ _ o.1 q
    · exact wrongs_sok (i + 1) ts known h n e o.2 w'
end
end Cm

set_option linter.all false
/-! classes of errors with fields: their facts as one check -/
namespace Cm
open PySem L2 PySem.Spec PyProof.Rows
/-- the def within a class of the text -/
def iniS : Stmt → Stmt
  | .ClassDef _ _ _ b _ _ _ _ _ _ _ => b.getD 0 (.Pass ⟨0, 0, 0, 0⟩)
  | s => s
theorem two_of {α : Type} {xs : List α} (h : xs.length = 2) : ∃ x y, xs = [x, y] := by
  cases xs with
  | nil => simp at h
  | cons a r =>
    obtain ⟨b, rfl⟩ := one_of (show r.length = 1 by simpa using h)
    exact ⟨a, b, rfl⟩
def excB (K : PySem.W.Frag) (C : Addr) : Bool :=
  PySem.W.findIn K (.ref C) "__getattribute__" == some (some (.builtin "BaseException.__getattribute__")) && (PySem.W.findIn K (.ref C) "__getattr__" == some Option.none && (PySem.W.subIn K (.ref C) (.type "BaseException") == some true && (PySem.W.hasDictIn K C &&
    (PySem.W.findIn K (.ref C) "__class__" == some (some (.builtin "object.__class__")) && (PySem.W.specialIn K (.builtin "object.__class__") "__get__" == some (some (.builtin "getset_descriptor.__get__")) && (PySem.W.takesIn K (.builtin "object.__class__") == some true &&
      (PySem.W.mroIn K C (.type "object") == some true && (PySem.W.typeIn K (.ref C) == some (.type "type") && PySem.W.keepIn K (.ref C)))))))))
def clsB (K : PySem.W.Frag) (C fI : Addr) (fl : List Str) : Bool :=
  excB K C && (PySem.W.findIn K (.ref C) "__setattr__" == some (some (.builtin "object.__setattr__")) && ((fl.all fun f => PySem.W.findIn K (.ref C) f == some Option.none) && (PySem.W.typeIn K (.ref fI) == some (.type "function") && PySem.W.keepIn K (.ref fI))))
structure ExcF (K : PySem.W.Frag) (C : Addr) : Prop where
  ec : ExcC K C
  xf : XfC K C
  ty : PySem.W.typeIn K (.ref C) = some (.type "type")
  kp : PySem.W.keepIn K (.ref C) = true
theorem excB_ok {K : PySem.W.Frag} {C : Addr} (h : excB K C = true) : ExcF K C := by
  simp only [excB, Bool.and_eq_true, beq_iff_eq] at h
  obtain ⟨h1, h2, h3, h4, h5, h6, h7, h8, h9, h10⟩ := h
  exact ⟨⟨h1, h2, h3, h4, h5, h6, h7, h8⟩, ⟨h1, h2, h3, h4⟩, h9, h10⟩
theorem clsB_exc {K : PySem.W.Frag} {C fI : Addr} {fl : List Str} (h : clsB K C fI fl = true) : ExcF K C := by
  simp only [clsB, Bool.and_eq_true] at h
  exact excB_ok h.1
theorem clsB_kI {K : PySem.W.Frag} {C fI : Addr} {fl : List Str} (h : clsB K C fI fl = true) : PySem.W.keepIn K (.ref fI) = true := by
  simp only [clsB, Bool.and_eq_true, beq_iff_eq] at h
  exact h.2.2.2.2
theorem mk_of {P : Program} {w : World} {K : PySem.W.Frag} {h : Heap} {mg : Str → Option Value} {base : Heap} {C fI R : Addr} {x : Str} {fl ps : List Str} {fd : FuncData} (X : K.In h) (G : h.Ns mainGlobals mg) (a : PySem.W.nsIn K mainGlobals x = some (some (.ref C)))
    {nm q : Str} {N : Addr} {bs : List Value} {sn : List Str} {sub : List Value} {ab : Bool} {col : Option Bool} {dd : Option Addr} {m0 m1 m2 m3 m5 : Option Value}
    (xl : K.lookup C = some (excClassObj nm q C N bs [.ref R, .type "ValueError", .type "Exception", .type "BaseException", .type "object"] true sn sub ab col dd m0 m1 m2 m3 m5 "ValueError.__new__"))
    (i : PySem.W.findIn K (.ref C) "__init__" = some (some (.ref fI))) (o : clsB K C fI fl = true) (F : FnOk P w K mg base CX0 1 fI fd ps (spI K fl)) (b : Binds K fd ps []) : Mk P w K mg base C x fl := by
  simp only [clsB, Bool.and_eq_true, beq_iff_eq, List.all_eq_true] at o
  obtain ⟨o1, o2, o3, o4, o5⟩ := o
  have E := excB_ok o1
  refine ⟨⟨⟨nm, q, N, bs, _, sn, sub, ab, col, dd, m0, m1, m2, m3, m5, xl, ?_⟩, o2, E.ec.hs, E.ty, E.kp⟩, PySem.W.mg_of X G a, E.xf, E.ec, o3, fI, fd, ps, i, o4, F, b⟩
  show PySem.HandSPX.refsVE [.type "ValueError", .type "Exception", .type "BaseException", .type "object"] = true
  decide +kernel
/-- caught by its own name -/
theorem exm_own {K : PySem.W.Frag} {C fI : Addr} {fl : List Str} (o : clsB K C fI fl = true) (s : PySem.W.subIn K (.ref C) (.ref C) = some true) : PySem.W.exmOne K (.ref C) (.ref C) = some true := by
  have E := clsB_exc o
  exact PySem.W.exm_ref E.ec.hs E.ec.hd E.ty s
end Cm

set_option linter.all false
/-! displays of tuples out of written texts, written numbers and names, as one step -/
namespace Cm
open PySem L2 PySem.Spec PyProof.Rows
inductive DX where
  | str (x : Str)
  | int (i : Int)
  | slot (i : Nat)
  | tup (xs : List DX)
mutual
def DX.data (ρ : Nat → PyData) : DX → PyData
  | .str x => .str x
  | .int i => .int i
  | .slot i => ρ i
  | .tup xs => .tuple (DX.datas ρ xs)
def DX.datas (ρ : Nat → PyData) : List DX → List PyData
  | [] => []
  | x :: xs => x.data ρ :: DX.datas ρ xs
end
mutual
def DX.slots : DX → List Nat
  | .str _ => []
  | .int _ => []
  | .slot i => [i]
  | .tup xs => DX.slotss xs
def DX.slotss : List DX → List Nat
  | [] => []
  | x :: xs => x.slots ++ DX.slotss xs
end
/-- the names hold such data -/
def Has (K : PySem.W.Frag) (ρ : Nat → PyData) (σ : L2.St) (H : Hp) : List Nat → Prop
  | [] => True
  | i :: r => (∃ v, σ[i]? = some (some v) ∧ Dp K H v (ρ i)) ∧ Has K ρ σ H r
theorem Has.same {K : PySem.W.Frag} {ρ : Nat → PyData} {σ : L2.St} {H H' : Hp} (s : Same H H') : ∀ {l : List Nat}, Has K ρ σ H l → Has K ρ σ H' l
  | [], _ => trivial
  | _ :: _, ⟨⟨v, e, h⟩, r⟩ => ⟨⟨v, e, dp_same s _ _ h⟩, Has.same s r⟩
theorem Has.app {K : PySem.W.Frag} {ρ : Nat → PyData} {σ : L2.St} {H : Hp} : ∀ {l m : List Nat}, Has K ρ σ H (l ++ m) → Has K ρ σ H l ∧ Has K ρ σ H m
  | [], _, h => ⟨trivial, h⟩
  | _ :: _, _, ⟨a, r⟩ => ⟨⟨a, (Has.app r).1⟩, (Has.app r).2⟩
def tD (K : PySem.W.Frag) (d : DX) : TE := fun σ H Q => ∃ ρ : Nat → PyData, Has K ρ σ H d.slots ∧ ∀ v H', Same H H' → Dp K H' v (d.data ρ) → Q v H'
def tDs (K : PySem.W.Frag) (ds : List DX) : TA := fun σ H Q => ∃ ρ : Nat → PyData, Has K ρ σ H (DX.slotss ds) ∧ ∀ vs H', Same H H' → DpAll K H' vs (DX.datas ρ ds) → Q vs H'
section
variable {X : Cx} {K : PySem.W.Frag}
theorem pd_str {x : Str} {j : Nat} {pos : Pos} : PE X (.Constant (.str x) j pos) (tD K (.str x)) :=
  ⟨fun pins s σ H Q I ⟨ρ, _, k⟩ => pe_str.run pins s σ H Q I (k _ H (Same.refl H) (.str x))⟩
theorem pd_int {i : Int} {j : Nat} {pos : Pos} : PE X (.Constant (.int i) j pos) (tD K (.int i)) :=
  ⟨fun pins s σ H Q I ⟨ρ, _, k⟩ => pe_int.run pins s σ H Q I (k _ H (Same.refl H) (.int i))⟩
theorem pd_slot {i : Nat} {e : Expr} (h : PE X e (tVar i)) : PE X e (tD K (.slot i)) :=
  ⟨fun pins s σ H Q I ⟨ρ, ⟨⟨v, ev, hv⟩, _⟩, k⟩ => h.run pins s σ H Q I ⟨v, ev, k v H (Same.refl H) hv⟩⟩
theorem pd_nil : PA X [] (tDs K []) :=
  ⟨fun pos pins s σ H Q I ⟨ρ, _, k⟩ => pa_nil.run pos pins s σ H Q I (k [] H (Same.refl H) .nil)⟩
theorem pd_cons {e : Expr} {es : List Expr} {d : DX} {ds : List DX} (h : PE X e (tD K d)) (r : PA X es (tDs K ds)) (hs : starEach (e :: es) X.env = (false, eval e X.env) :: starEach es X.env := by rfl) : PA X (e :: es) (tDs K (d :: ds)) :=
  ⟨fun pos pins s σ H Q I ⟨ρ, hh, k⟩ => (pa_cons h r hs).run pos pins s σ H Q I
    ⟨ρ, (Has.app hh).1, fun v H1 s1 hv => ⟨ρ, (Has.app hh).2.same s1, fun vs H2 s2 hvs => k (v :: vs) H2 (s1.trans s2) (.cons (dp_same s2 _ _ hv) hvs)⟩⟩⟩
theorem datas_len {ρ : Nat → PyData} : ∀ ds : List DX, (DX.datas ρ ds).length = ds.length
  | [] => rfl
  | d :: ds => congrArg (· + 1) (datas_len ds)
theorem pd_tup {es : List Expr} {ds : List DX} {k : Nat} {pos : Pos} (h : PA X es (tDs K ds)) (hl : ds.length ≤ 1000 := by decide) : PE X (.Tuple es k pos) (tD K (.tup ds)) :=
  ⟨fun pins s σ H Q I ⟨ρ, hh, k⟩ => (pe_tup h).run pins s σ H Q I ⟨ρ, hh, fun vs H1 s1 hvs => ⟨by
      have e := DpAll.len hvs
      rw [datas_len] at e
      rw [e]
      exact Nat.le_trans hl (by decide), fun p hp => k _ _ (s1.trans (same_new hp)) (.tup (.inl (.inl upd_same)) (dps_same (same_new hp) _ _ hvs))⟩⟩⟩
end
theorem iteEq {x y : Str} {A B : Prop} (h : x = y) (a : A) : if decide (V.str x = V.str y) = true then A else B := by
  rw [decS, decide_eq_true h]
  exact iteT a
theorem iteNe {x y : Str} {A B : Prop} (h : ¬ x = y) (b : B) : if decide (V.str x = V.str y) = true then A else B := by
  rw [decS, decide_eq_false h]
  exact iteF b
theorem iteIn {x : Str} {ws : List Str} {A B : Prop} (h : x ∈ ws) (a : A) : if inV (.str x) (ws.map V.str) = true then A else B := by
  rw [in_words, decide_eq_true h]
  exact iteT a
theorem iteNi {x : Str} {ws : List Str} {A B : Prop} (h : ¬ x ∈ ws) (b : B) : if inV (.str x) (ws.map V.str) = true then A else B := by
  rw [in_words, decide_eq_false h]
  exact iteF b
theorem mem_str {ws : List Str} {v : V} (h : v ∈ ws.map V.str) : ∃ w, w ∈ ws ∧ v = .str w := by
  obtain ⟨w, hw, rfl⟩ := List.mem_map.mp h
  exact ⟨w, hw, rfl⟩
end Cm

namespace K13
open PySem L2 Cm
/-- the names that a form binds over each of its parts -/
def spBound (K : PySem.W.Frag) : Sp := fun vs H Q _ => ∃ (v : V) (h : Hd) (ds : List PyData), vs = [v] ∧ Dp K H v (encH h ds) ∧ hok h ds.length ∧ flatDs ds = true ∧ ds.length ≤ 100 ∧
  ∀ (t : Addr) (us : List V) (H' : Hp), Same H H' → SqT K H' t us → DpAll K H' us (bnds h ds.length) → Q (.ref t) H'
section
variable {P : Program} {w : World} {K : PySem.W.Frag} {mg : Str → Option Value} {base : Heap}
theorem dps_rep {H : Hp} {v : V} {d : PyData} (h : Dp K H v d) : ∀ n : Nat, DpAll K H (List.replicate n [v]).flatten (List.replicate n d)
  | 0 => .nil
  | n + 1 => by
    have := dps_rep h n
    show DpAll K H ([v] ++ (List.replicate n [v]).flatten) (d :: List.replicate n d)
    exact .cons h this
abbrev s_p_names_bound : Stmt := top 3
abbrev N_p_names_bound : List Str := ["tree", "word", "names", "name", "_", "sides"]
theorem sc_p_names_bound : FnScope N_p_names_bound ["tree"] (defScope s_p_names_bound) := ⟨rfl, rfl, rfl, by decide +kernel, rfl, by decide +kernel, by decide +kernel⟩
theorem ok_names_bound (T : Txt mg) (c_p_parts_of : Cl P w K mg base 1 "parts_of" (spParts K)) (D : At K mg "names_bound" s_p_names_bound ["tree"]) : Cl P w K mg base 2 "names_bound" (spBound K) := by
  refine cl_of D sc_p_names_bound (fun vs H Q E h => ?_) fun f cdv A outer s H vs Q E hr h => ?_
  · obtain ⟨v, h, ds, rfl, _⟩ := h
    rfl
  · obtain ⟨v, h, ds, rfl, hd, o, fl, hlen, k⟩ := h
    obtain ⟨a, its, rfl, hs, hx⟩ := view hd
    refine ⟨_, (pss_cons (ps_set (i := 1) sc_p_names_bound.nd rfl (Or.inl rfl) (pe_ix ix_tup (pv 0) pe_int (fun _ _ => rfl)))
      (pss_cons (ps_if (pt_cmpR op_eq (pv 1) pe_str (nomark _))
        (pss_one (ps_ret (pe_tup (pa_cons (pe_tupleOf (by rfl) T.tuple (pe_ix ix_tup (pv 0) pe_int (fun _ _ => rfl))) pa_nil))))
        pss_nil)
      (pss_cons (ps_if (pt_inW (pv 1) (.cons (.cons (.cons .nil))) (show 3 ≤ sizeLine by decide) (by rfl))
        (pss_one (ps_ret (pe_tup (pa_cons (pe_tup (pa_cons (pe_ix ix_tup (pv 0) pe_int (fun _ _ => rfl)) pa_nil)) pa_nil))))
        pss_nil)
      (pss_cons (ps_if (pt_inW (pv 1) (.cons (.cons .nil)) (show 2 ≤ sizeLine by decide) (by rfl))
        (pss_cons (ps_set (i := 2) sc_p_names_bound.nd rfl (Or.inl rfl) (pe_tupleOf (by rfl) T.tuple (pe_lc (own := [("name", 3), ("_", 4)]) (g := gTup K 2 (gCons (gName 3) (gCons (gName 4) gNil))) rfl sc_p_names_bound.nd (pi_tup (pe_ix ix_tup (pv 0) pe_int (fun _ _ => rfl))) (blkOk_by (N := N_p_names_bound) (sc := defScope s_p_names_bound) (by decide +kernel))
      (fun _ _ _ _ _ => (pg_tup rfl (pgs_cons (pg_name (i := 3) sc_p_names_bound.nd rfl (Or.inl rfl)) (pgs_cons (pg_name (i := 4) sc_p_names_bound.nd rfl (Or.inl rfl)) pgs_nil))))
      (fun _ _ _ _ _ => pts_nil)
      (fun _ _ _ _ _ => (pv 3)))))
        (pss_mid (ps_set (i := 5) sc_p_names_bound.nd rfl (Or.inl rfl) (pe_ifExp (pt_cmpR op_eq (pv 1) pe_str (nomark _)) (pv 2) (pe_tup pa_nil)))
        (pss_one (ps_ret (pe_op op_catA (pe_op op_repA (pe_tup (pa_cons (pv 5) pa_nil)) (pe_callB call_len_seq (by rfl) T.len (by decide +kernel) (pa_cons (pv 2) pa_nil))) (pe_tup (pa_cons (pv 2) pa_nil)))))))
        pss_nil)
      (pss_one (ps_ret (pe_op op_repA (pe_tup (pa_cons (pe_tup pa_nil) pa_nil)) (pe_callB call_len_seq (by rfl) T.len (by decide +kernel) (pa_cons (pe_c c_p_parts_of hr (by decide) (by rfl) (pa_cons (pv 0) pa_nil)) pa_nil))))))))), ?_⟩
    have hhd := hx.head
    refine ⟨_, rfl, a, its, _, _, rfl, rfl, hs, hhd, ?_⟩
    refine ⟨_, rfl, rfl, _, rfl, ?_⟩
    rw [eq_fn o]
    cases eF : isFn h with
    | true =>
      refine iteT ?_
      cases h with
      | fn xs =>
        obtain ⟨q, vs, rfl, hq, hv⟩ := hx
        refine ⟨_, rfl, a, _, _, _, rfl, rfl, hs, atI_nat (j := 1) rfl, .inr ⟨q, _, rfl, hq, by show 1 ≤ sizeLine; decide, fun t ht => ?_⟩⟩
        have s1 := same_new (o := .tup [V.ref q]) ht
        refine k t _ _ s1 (.inl (.inl upd_same)) ?_
        have e1 : ds.length = 1 := o.1
        rw [bnds_no rfl, e1]
        exact .cons (.tup (sqt_same s1 hq) (dpAll_strs xs)) .nil
      | _ => cases eF
    | false =>
      refine iteF ?_
      refine ⟨_, rfl, rfl, fun H1 s1 => ?_⟩
      have hs1 := sqt_same s1 hs
      have hx1 := hx.same s1
      rw [in_T o]
      cases eT : isTak h with
      | true =>
        refine iteT ?_
        cases h with
        | one w x =>
          obtain ⟨vs, rfl, hv⟩ := hx1
          refine ⟨_, rfl, a, _, _, _, rfl, rfl, hs1, atI_nat (j := 1) rfl, by show 1 ≤ sizeLine; decide, fun q hq => ⟨by show 1 ≤ sizeLine; decide, fun t ht => ?_⟩⟩
          have s2 := same_new (o := .tup [V.str x]) hq
          have s3 := same_new (o := .tup [V.ref q]) ht
          refine k t _ _ (s1.trans (s2.trans s3)) (.inl (.inl upd_same)) ?_
          have e1 : ds.length = 1 := o.1
          have e2 : held (.one w x) = [x] := by
            have : (!decide (w = "set")) = true := eT
            show (if w = "set" then [] else [x] : List Str) = [x]
            rw [if_neg (fun z => by rw [decide_eq_true z] at this; cases this)]
          rw [bnds_no rfl, e1, e2]
          exact .cons (.tup (sqt_same s3 (.inl (.inl upd_same))) (dpAll_strs [x])) .nil
        | _ => cases eT
      | false =>
        refine iteF ?_
        refine ⟨_, rfl, rfl, fun H2 s2 => ?_⟩
        have S2 := s1.trans s2
        have hs2 := sqt_same s2 hs1
        have hx2 := hx1.same s2
        rw [in_B o]
        cases eB : kB h with
        | true =>
          refine iteT ?_
          cases h with
          | bind w xs =>
            obtain ⟨q, rows, vs, rfl, hq, hrows, hv⟩ := hx2
            have hdl : ds.length = xs.length + 1 := o.1
            have hrl : rows.length = xs.length := by
              have := DpAll.len hrows
              rw [List.length_map, List.length_zip] at this
              omega
            refine ⟨_, rfl, a, _, _, _, rfl, rfl, hs2, atI_nat (j := 1) rfl, q, rfl, ⟨_, hq⟩, fun L hL => ?_⟩
            refine lc_data (K := K) (walk_tup (xs := rows)) (fun i => (xs[i]?).map PyData.str) hL (by omega) (fun H' s => sqt_same s hq) (fun i _ d e => ?_) ?_ ?_
            · obtain ⟨d', e', rfl⟩ := Option.map_eq_some_iff.mp e
              rfl
            · rintro i x H3 H4 hi s3 ⟨rfl, e2⟩ Q1 Q0 q1 q0
              obtain ⟨d, g1, g2⟩ := DpAll.atV hrows e2
              obtain ⟨p, ep, rfl⟩ := map_at g1
              obtain ⟨r, its3, rfl, hr3, hi3⟩ := dp_tup (dp_same s3 _ _ g2)
              cases hi3 with
              | cons h1 h2 =>
                obtain ⟨v, rfl, h3⟩ := dpAll_one h2
                refine ⟨r, _, rfl, hr3, rfl, _, _, rfl, _, _, rfl, rfl, rfl, ?_⟩
                refine ⟨_, rfl, q1 _ _ (.str p.1) ?_ (Same.refl _) h1⟩
                rw [(List.getElem?_zip_eq_some.mp ep).1]
                rfl
            · intro H3 acc s3 hacc ha3
              rw [show rows.length = xs.length by omega, range_map] at ha3
              have ea := dpAll_strs_inv ha3
              subst ea
              refine .inl ⟨L, _, rfl, .inl (.inl hacc), fun nm hnm => ?_⟩
              have s4 := same_new (o := .tup (xs.map V.str)) hnm
              have S4 := S2.trans (s3.trans s4)
              have hn4 : SqT K (upd H3 nm (.tup (xs.map V.str))) nm (xs.map V.str) := .inl (.inl upd_same)
              generalize upd H3 nm (.tup (xs.map V.str)) = H4 at *
              refine ⟨fun σ' H' => ∃ sd : Addr, σ' = [some (.ref a), some (.str (wd (.bind w xs))), some (.ref nm), none, none, some (.ref sd)] ∧ Same H4 H' ∧ (xs = [] ∨ SqT K H' sd ((under (.bind w xs) ds.length 0).map V.str)), ?_, ?_⟩
              · refine ⟨_, rfl, rfl, _, rfl, ?_⟩
                have hw : w ∈ bindW := o.2.1
                have hcw : w = "let" ∨ w = "rec" := by
                  simp only [bindW, List.mem_cons, List.not_mem_nil, or_false] at hw
                  exact hw
                show if decide (V.str w = V.str "rec") = true then _ else _
                rcases hcw with rfl | rfl
                · refine iteNe (by decide +kernel) ⟨by show 0 ≤ sizeLine; decide, fun sd hsd => ⟨sd, rfl, same_new hsd, ?_⟩⟩
                  by_cases z : xs = []
                  · exact .inl z
                  · have hx0 : 0 < xs.length := List.length_pos_iff.mpr z
                    have e0 : under (.bind "let" xs) ds.length 0 = [] := by
                      unfold under
                      rw [if_pos ⟨show decide (("let" : Str) = "let") = true by decide +kernel, by omega⟩]
                    rw [e0]
                    exact .inr (.inl (.inl upd_same))
                · refine iteEq rfl ⟨_, rfl, nm, rfl, Same.refl _, ?_⟩
                  have e0 : under (.bind "rec" xs) ds.length 0 = xs := under_no (h := .bind "rec" xs) (show decide (("rec" : Str) = "let") = false by decide +kernel) _ _
                  rw [e0]
                  exact .inr hn4
              · rintro σ' H5 ⟨sd, rfl, s5, hsd⟩
                refine ⟨_, rfl, by show 1 ≤ sizeLine; decide, fun t1 ht1 => ?_⟩
                have s6 := same_new (o := .tup [V.ref sd]) ht1
                refine ⟨_, rfl, nm, _, rfl, .inr (sqt_same (s5.trans s6) hn4), ?_⟩
                refine ⟨t1, (xs.map V.str).length, _, rfl, rfl, .inl (.inl upd_same), (fun z => by cases z), by rw [List.length_map]; omega, (by show 1 ≤ 1000; decide), fun t2 H7 s7 ht2 => ?_⟩
                refine ⟨_, rfl, by show 1 ≤ sizeLine; decide, fun t3 ht3 => ?_⟩
                have s8 := same_new (o := .tup [V.ref nm]) ht3
                refine cat_any (sqt_same s8 ht2) (.inl (.inl upd_same)) ?_ fun t4 H9 s9 ht4 => ?_
                · have e : (List.replicate (xs.map V.str).length [V.ref sd]).flatten.length ≤ 1000 := by
                    have := DpAll.len (dps_rep (K := K) (H := H5) (v := .non) (d := .none) .non (xs.map V.str).length)
                    rw [List.length_flatten, List.map_replicate, List.sum_replicate_nat, List.length_map]
                    show xs.length * 1 ≤ 1000
                    omega
                  exact Nat.le_trans (Nat.add_le_add_right e _) (by show 1001 ≤ sizeLine; decide)
                · have S9 := (s6.trans s7).trans (s8.trans s9)
                  refine k t4 _ H9 ((S4.trans s5).trans S9) ht4 ?_
                  rw [hdl]
                  have dn : Dp K H9 (.ref nm) (encs xs) := .tup (sqt_same (s5.trans S9) hn4) (dpAll_strs xs)
                  rw [List.length_map]
                  by_cases e : isLet (.bind w xs) = true
                  · rw [bnds_let e]
                    refine DpAll.app ?_ (.cons dn .nil)
                    rcases hsd with z | hsd
                    · subst z
                      exact .nil
                    · by_cases z : xs = []
                      · subst z
                        exact .nil
                      · have hx0 : 0 < xs.length := List.length_pos_iff.mpr z
                        have e0 : under (.bind w xs) ds.length 0 = [] := by
                          unfold under
                          rw [if_pos ⟨e, by omega⟩]
                        rw [e0] at hsd
                        exact dps_rep (.tup (sqt_same S9 hsd) .nil) _
                  · have e' : isLet (.bind w xs) = false := by simpa using e
                    rw [bnds_no e', List.replicate_succ']
                    refine DpAll.app ?_ (.cons dn .nil)
                    rcases hsd with z | hsd
                    · subst z
                      exact .nil
                    · rw [under_no e'] at hsd
                      exact dps_rep (.tup (sqt_same S9 hsd) (dpAll_strs xs)) _
          | _ => cases eB
        | false =>
          refine iteF ?_
          have eh : held h = [] := by
            cases h with
            | fn xs => cases eF
            | bind w xs => cases eB
            | one w x =>
              have : (!decide (w = "set")) = false := eT
              show (if w = "set" then [] else [x] : List Str) = []
              rw [if_pos (by
                by_cases z : w = "set"
                · exact z
                · rw [decide_eq_false z] at this
                  cases this)]
            | _ => rfl
          have el : isLet h = false := by
            cases h with
            | bind w xs => cases eB
            | _ => rfl
          refine ⟨by show 0 ≤ sizeLine; decide, fun t1 ht1 => ⟨by show 1 ≤ sizeLine; decide, fun t2 ht2 => ?_⟩⟩
          have s3 := same_new (o := .tup []) ht1
          have s4 := same_new (o := .tup [V.ref t1]) ht2
          have S4 := S2.trans (s3.trans s4)
          refine ⟨_, rfl, .ref a, h, ds, rfl, dp_same S4 _ _ hd, o, fl, hlen, fun t5 us H5 s5 ht5 hu => ?_⟩
          have hul := DpAll.len hu
          refine ⟨t5, us, rfl, .inr ht5, ?_⟩
          refine ⟨t2, us.length, _, rfl, rfl, sqt_same s5 (.inl (.inl upd_same)), (fun z => by cases z), by omega, (by show 1 ≤ 1000; decide), fun t6 H6 s6 ht6 => ?_⟩
          refine k t6 _ H6 (S4.trans (s5.trans s6)) ht6 ?_
          rw [bnds_no el, eh, hul]
          exact dps_rep (.tup (sqt_same (s4.trans (s5.trans s6)) (.inl (.inl upd_same))) .nil) _
end
end K13

set_option linter.all false
/-! displays of tuples whose parts may draw, as one step -/
namespace Cm
open PySem L2 PySem.Spec PyProof.Rows
inductive GX where
  | str (x : Str)
  | int (i : Int)
  | slot (i : Nat)
  | ex (n : Nat) (te : TE)
  | tup (xs : List GX)
mutual
def GX.data (ρ τ : Nat → PyData) : GX → PyData
  | .str x => .str x
  | .int i => .int i
  | .slot i => ρ i
  | .ex n _ => τ n
  | .tup xs => .tuple (GX.datas ρ τ xs)
def GX.datas (ρ τ : Nat → PyData) : List GX → List PyData
  | [] => []
  | x :: xs => x.data ρ τ :: GX.datas ρ τ xs
end
mutual
def GX.slots : GX → List Nat
  | .slot i => [i]
  | .tup xs => GX.slotss xs
  | _ => []
def GX.slotss : List GX → List Nat
  | [] => []
  | x :: xs => x.slots ++ GX.slotss xs
end
mutual
def GX.exs : GX → List (Nat × TE)
  | .ex n te => [(n, te)]
  | .tup xs => GX.exss xs
  | _ => []
def GX.exss : List GX → List (Nat × TE)
  | [] => []
  | x :: xs => x.exs ++ GX.exss xs
end
/-- the names hold such data, without lists -/
def HasF (K : PySem.W.Frag) (ρ : Nat → PyData) (σ : L2.St) (H : Hp) : List Nat → Prop
  | [] => True
  | i :: r => (∃ v, σ[i]? = some (some v) ∧ Dp K H v (ρ i) ∧ flatD (ρ i) = true) ∧ HasF K ρ σ H r
theorem HasF.kp {K : PySem.W.Frag} {M : Addr → Prop} {ρ : Nat → PyData} {σ : L2.St} {H H' : Hp} (s : Kp M H H') : ∀ {l : List Nat}, HasF K ρ σ H l → HasF K ρ σ H' l
  | [], _ => trivial
  | _ :: _, ⟨⟨v, e, h, f⟩, r⟩ => ⟨⟨v, e, dp_keep (fun _ _ q => s.tup q) _ _ f h, f⟩, HasF.kp s r⟩
theorem HasF.app {K : PySem.W.Frag} {ρ : Nat → PyData} {σ : L2.St} {H : Hp} : ∀ {l m : List Nat}, HasF K ρ σ H (l ++ m) → HasF K ρ σ H l ∧ HasF K ρ σ H m
  | [], _, h => ⟨trivial, h⟩
  | _ :: _, _, ⟨a, r⟩ => ⟨⟨a, (HasF.app r).1⟩, (HasF.app r).2⟩
/-- each part that draws gives data that is good, wherever it is asked -/
def AllE (K : PySem.W.Frag) (h c : Addr) (S : Nat → PyData → Prop) (σ : L2.St) (H : Hp) : List (Nat × TE) → Prop
  | [] => True
  | e :: r => (∀ H1, Kh h H H1 → Hand H1 h c → e.2 σ H1 fun x H2 => Kh h H1 H2 ∧ Hand H2 h c ∧ ∃ d, S e.1 d ∧ flatD d = true ∧ Dp K H2 x d) ∧ AllE K h c S σ H r
theorem AllE.kp {K : PySem.W.Frag} {h c : Addr} {S : Nat → PyData → Prop} {σ : L2.St} {H H' : Hp} (s : Kh h H H') : ∀ {l : List (Nat × TE)}, AllE K h c S σ H l → AllE K h c S σ H' l
  | [], _ => trivial
  | _ :: _, ⟨a, r⟩ => ⟨fun H1 k x => a H1 (s.trans k) x, AllE.kp s r⟩
theorem AllE.app {K : PySem.W.Frag} {h c : Addr} {S : Nat → PyData → Prop} {σ : L2.St} {H : Hp} : ∀ {l m : List (Nat × TE)}, AllE K h c S σ H (l ++ m) → AllE K h c S σ H l ∧ AllE K h c S σ H m
  | [], _, q => ⟨trivial, q⟩
  | _ :: _, _, ⟨a, r⟩ => ⟨⟨a, (AllE.app r).1⟩, (AllE.app r).2⟩
/-- what was drawn -/
def AllS (S : Nat → PyData → Prop) (τ : Nat → PyData) : List (Nat × TE) → Prop
  | [] => True
  | e :: r => S e.1 (τ e.1) ∧ AllS S τ r
def nums (l : List (Nat × TE)) : List Nat := l.map (·.1)
mutual
theorem flat_gdata {K : PySem.W.Frag} {ρ τ : Nat → PyData} {σ : L2.St} {H : Hp} : ∀ (d : GX), HasF K ρ σ H d.slots → (∀ n, flatD (τ n) = true) → flatD (d.data ρ τ) = true
  | .str _, _, _ => rfl
  | .int _, _, _ => rfl
  | .slot _, ⟨⟨_, _, _, f⟩, _⟩, _ => f
  | .ex n _, _, t => t n
  | .tup xs, h, t => by
    show flatDs (GX.datas ρ τ xs) = true
    exact flat_gdatas xs h t
theorem flat_gdatas {K : PySem.W.Frag} {ρ τ : Nat → PyData} {σ : L2.St} {H : Hp} : ∀ (ds : List GX), HasF K ρ σ H (GX.slotss ds) → (∀ n, flatD (τ n) = true) → flatDs (GX.datas ρ τ ds) = true
  | [], _, _ => rfl
  | d :: ds, h, t => by
    have h1 := flat_gdata d h.app.1 t
    have h2 := flat_gdatas ds h.app.2 t
    show (flatD (d.data ρ τ) && flatDs (GX.datas ρ τ ds)) = true
    rw [h1, h2]
    rfl
end
/-- the data of parts with numbers of their own -/
def put (τ : Nat → PyData) (n : Nat) (d : PyData) : Nat → PyData := fun m => if m = n then d else τ m
mutual
theorem data_eq {ρ τ τ' : Nat → PyData} : ∀ (d : GX), (∀ n ∈ nums d.exs, τ n = τ' n) → d.data ρ τ = d.data ρ τ'
  | .str _, _ => rfl
  | .int _, _ => rfl
  | .slot _, _ => rfl
  | .ex n te, h => h n List.mem_cons_self
  | .tup xs, h => congrArg PyData.tuple (datas_eq xs h)
theorem datas_eq {ρ τ τ' : Nat → PyData} : ∀ (ds : List GX), (∀ n ∈ nums (GX.exss ds), τ n = τ' n) → GX.datas ρ τ ds = GX.datas ρ τ' ds
  | [], _ => rfl
  | d :: ds, h => by
    have h' : ∀ n ∈ nums (d.exs ++ GX.exss ds), τ n = τ' n := h
    unfold nums at h'
    rw [List.map_append] at h'
    have e1 := data_eq (ρ := ρ) (τ := τ) (τ' := τ') d fun n m => h' n (List.mem_append_left _ m)
    have e2 := datas_eq (ρ := ρ) (τ := τ) (τ' := τ') ds fun n m => h' n (List.mem_append_right _ m)
    show d.data ρ τ :: GX.datas ρ τ ds = d.data ρ τ' :: GX.datas ρ τ' ds
    rw [e1, e2]
end
theorem alls_eq {S : Nat → PyData → Prop} {τ τ' : Nat → PyData} : ∀ {l : List (Nat × TE)}, (∀ n ∈ nums l, τ n = τ' n) → AllS S τ l → AllS S τ' l
  | [], _, _ => trivial
  | e :: r, h, ⟨a, b⟩ => ⟨by rw [← h e.1 List.mem_cons_self]; exact a, alls_eq (fun n m => h n (List.mem_cons_of_mem _ m)) b⟩
theorem alls_app {S : Nat → PyData → Prop} {τ : Nat → PyData} : ∀ {l m : List (Nat × TE)}, AllS S τ l → AllS S τ m → AllS S τ (l ++ m)
  | [], _, _, q => q
  | _ :: _, _, ⟨a, r⟩, q => ⟨a, alls_app r q⟩
def tG (K : PySem.W.Frag) (d : GX) : TE := fun σ H Q => ∃ (h c : Addr) (ρ : Nat → PyData) (S : Nat → PyData → Prop), Hand H h c ∧ HasF K ρ σ H d.slots ∧ AllE K h c S σ H d.exs ∧
  ∀ v H' τ, Kh h H H' → Hand H' h c → AllS S τ d.exs → (∀ n, flatD (τ n) = true) → Dp K H' v (d.data ρ τ) → Q v H'
def tGs (K : PySem.W.Frag) (ds : List GX) : TA := fun σ H Q => ∃ (h c : Addr) (ρ : Nat → PyData) (S : Nat → PyData → Prop), Hand H h c ∧ HasF K ρ σ H (GX.slotss ds) ∧ AllE K h c S σ H (GX.exss ds) ∧
  ∀ vs H' τ, Kh h H H' → Hand H' h c → AllS S τ (GX.exss ds) → (∀ n, flatD (τ n) = true) → DpAll K H' vs (GX.datas ρ τ ds) → Q vs H'
section
variable {X : Cx} {K : PySem.W.Frag}
theorem pgx_str {x : Str} {j : Nat} {pos : Pos} : PE X (.Constant (.str x) j pos) (tG K (.str x)) :=
  ⟨fun pins s σ H Q I ⟨h, c, ρ, S, hh, _, _, k⟩ => pe_str.run pins s σ H Q I (k _ H (fun _ => .none) hh.kr hh trivial (fun _ => rfl) (.str x))⟩
theorem pgx_int {i : Int} {j : Nat} {pos : Pos} : PE X (.Constant (.int i) j pos) (tG K (.int i)) :=
  ⟨fun pins s σ H Q I ⟨h, c, ρ, S, hh, _, _, k⟩ => pe_int.run pins s σ H Q I (k _ H (fun _ => .none) hh.kr hh trivial (fun _ => rfl) (.int i))⟩
theorem pgx_slot {i : Nat} {e : Expr} (h : PE X e (tVar i)) : PE X e (tG K (.slot i)) :=
  ⟨fun pins s σ H Q I ⟨h', c, ρ, S, hh, ⟨⟨v, ev, hv, _⟩, _⟩, _, k⟩ => h.run pins s σ H Q I ⟨v, ev, k v H (fun _ => .none) hh.kr hh trivial (fun _ => rfl) hv⟩⟩
theorem pgx_ex {e : Expr} {te : TE} (n : Nat) (he : PE X e te) : PE X e (tG K (.ex n te)) :=
  ⟨fun pins s σ H Q I ⟨h, c, ρ, S, hh, _, a, k⟩ => wpAny_mono (he.run pins s σ H _ I (a.1 H hh.kr hh)) (fun u s1 ⟨x, H2, I2, r, ⟨k2, hh2, d, sd, fd, hd⟩⟩ =>
    ⟨x, H2, I2, r, k x H2 (fun _ => d) k2 hh2 ⟨sd, trivial⟩ (fun _ => fd) hd⟩) (fun _ _ z => z)⟩
theorem pgx_nil : PA X [] (tGs K []) :=
  ⟨fun pos pins s σ H Q I ⟨h, c, ρ, S, hh, _, _, k⟩ => pa_nil.run pos pins s σ H Q I (k [] H (fun _ => .none) hh.kr hh trivial (fun _ => rfl) .nil)⟩
/-- the numbers of the first part are not those of the others -/
def apart (l m : List (Nat × TE)) : Bool := (nums l).all fun n => !(nums m).contains n
theorem pgx_cons {e : Expr} {es : List Expr} {d : GX} {ds : List GX} (hd : PE X e (tG K d)) (r : PA X es (tGs K ds)) (ap : apart d.exs (GX.exss ds) = true := by rfl)
    (hs : starEach (e :: es) X.env = (false, eval e X.env) :: starEach es X.env := by rfl) : PA X (e :: es) (tGs K (d :: ds)) :=
  ⟨fun pos pins s σ H Q I ⟨h, c, ρ, S, hh, hf, ha, k⟩ => (pa_cons hd r hs).run pos pins s σ H Q I
    ⟨h, c, ρ, S, hh, hf.app.1, ha.app.1, fun v H1 τ1 k1 hh1 a1 f1 hv => ⟨h, c, ρ, S, hh1, hf.app.2.kp k1, ha.app.2.kp k1, fun vs H2 τ2 k2 hh2 a2 f2 hvs => by
      have no : ∀ n ∈ nums d.exs, ¬ n ∈ nums (GX.exss ds) := fun n m z => by
        have := List.all_eq_true.mp ap n m
        rw [List.contains_iff_mem.mpr z] at this
        cases this
      let τ : Nat → PyData := fun n => if n ∈ nums d.exs then τ1 n else τ2 n
      have e1 : ∀ n ∈ nums d.exs, τ1 n = τ n := fun n m => (if_pos m).symm
      have e2 : ∀ n ∈ nums (GX.exss ds), τ2 n = τ n := fun n m => (if_neg (fun z => no n z m)).symm
      refine k (v :: vs) H2 τ (k1.trans k2) hh2 (alls_app (alls_eq e1 a1) (alls_eq e2 a2)) (fun n => ?_) ?_
      · show flatD (if n ∈ nums d.exs then τ1 n else τ2 n) = true
        split
        · exact f1 n
        · exact f2 n
      · show DpAll K H2 (v :: vs) (d.data ρ τ :: GX.datas ρ τ ds)
        rw [← data_eq d e1, ← datas_eq ds e2]
        exact .cons (dp_keep (fun _ _ q => k2.tup q) _ _ (flat_gdata d hf.app.1 f1) hv) hvs⟩⟩⟩
theorem gdatas_len {ρ τ : Nat → PyData} : ∀ ds : List GX, (GX.datas ρ τ ds).length = ds.length
  | [] => rfl
  | d :: ds => congrArg (· + 1) (gdatas_len ds)
theorem pgx_tup {es : List Expr} {ds : List GX} {k : Nat} {pos : Pos} (h : PA X es (tGs K ds)) (hl : ds.length ≤ 1000 := by exact Nat.le_of_ble_eq_true rfl) : PE X (.Tuple es k pos) (tG K (.tup ds)) :=
  ⟨fun pins s σ H Q I ⟨h', c, ρ, S, hh, hf, ha, k⟩ => (pe_tup h).run pins s σ H Q I ⟨h', c, ρ, S, hh, hf, ha, fun vs H1 τ k1 hh1 a1 f1 hvs => ⟨by
      have e := DpAll.len hvs
      rw [gdatas_len] at e
      rw [e]
      exact Nat.le_trans hl (by decide), fun p hp => k _ _ τ (k1.trans (hh1.kh (same_new hp))) (hh1.same (same_new hp)) a1 f1 (.tup (.inl (.inl upd_same)) (dps_same (same_new hp) _ _ hvs))⟩⟩⟩
end
end Cm

set_option linter.all false
/-! how deep the data of a tree is; where a name is used -/
namespace Cm
open PySem L2 PySem.Spec PyProof.Rows
def wt (b : Nat) : Hd → Nat
  | .bind _ _ => 3
  | .doo => 2
  | .call => 2
  | .op _ => 2
  | .plain w => if w = "wind" then 1 + b else 1
  | _ => 1
mutual
def Tr.dd (b : Nat) : Tr → Nat
  | .mk h ps => wt b h + Tr.dds b ps
def Tr.dds (b : Nat) : List Tr → Nat
  | [] => 0
  | t :: ts => max (t.dd b) (Tr.dds b ts)
end
theorem dds_le {b n : Nat} : ∀ {ps : List Tr}, Tr.dds b ps ≤ n ↔ ∀ t ∈ ps, t.dd b ≤ n
  | [] => by simp [Tr.dds]
  | t :: ts => by
    have := dds_le (b := b) (n := n) (ps := ts)
    show max (t.dd b) (Tr.dds b ts) ≤ n ↔ _
    rw [Nat.max_le, this]
    simp
theorem wt_pos (b : Nat) (h : Hd) : 1 ≤ wt b h := by
  cases h with
  | plain w =>
    show 1 ≤ (if w = "wind" then 1 + b else 1)
    split <;> omega
  | _ => exact Nat.le_of_ble_eq_true rfl
theorem dd_pos (b : Nat) (t : Tr) : 1 ≤ t.dd b := by
  cases t with
  | mk h ps =>
    have := wt_pos b h
    show 1 ≤ wt b h + Tr.dds b ps
    omega
theorem dep_dd (b : Nat) (t : Tr) : t.dep ≤ t.dd b := by
  refine tr_ind (P := fun t => t.dep ≤ t.dd b) (fun h ps ih => ?_) t
  have h1 := wt_pos b h
  have h2 : Tr.deps ps ≤ Tr.dds b ps := deps_le.mpr fun t m => Nat.le_trans (ih t m) (dds_le.mp (Nat.le_refl _) t m)
  show Tr.deps ps + 1 ≤ wt b h + Tr.dds b ps
  omega
theorem lay_encD {b m : Nat} {h : Hd} {ds : List PyData} (o : hok h ds.length) (f : ∀ d ∈ ds, Lay m d) (p : ds ≠ [] → 1 ≤ m) : Lay (wt b h + m) (encH h ds) := by
  have hw : ∀ w, (w ∈ litW ∨ w ∈ oneW ∨ w ∈ bindW ∨ w ∈ plainW) → ∀ n, Lay n (.str w) := fun w q n => .str (words_sok w (by
    simp only [List.mem_append]
    rcases q with q | q | q | q
    · exact .inl (.inl (.inl q))
    · exact .inl (.inl (.inr q))
    · exact .inl (.inr q)
    · exact .inr q)) _
  have c : ∀ {n : Nat} {d : PyData} {ds : List PyData}, Lay n d → (∀ e ∈ ds, Lay n e) → ∀ e ∈ d :: ds, Lay n e := fun a b e q => by
    rcases List.mem_cons.mp q with rfl | q
    · exact a
    · exact b e q
  have nil : ∀ {n : Nat}, ∀ e ∈ ([] : List PyData), Lay n e := fun e q => by cases q
  have S : ∀ (n : Nat) (w : Str), sok w → Lay n (.str w) := fun n w h => .str h _
  cases h with
  | num i => exact (Lay.tup (n := m) (c (S m "number" (by decide +kernel)) (c (.int i _) nil))).mono (by show m + 1 ≤ 1 + m; omega)
  | name x => exact (Lay.tup (n := m) (c (S m "name" (by decide +kernel)) (c (S m x o.2) nil))).mono (by show m + 1 ≤ 1 + m; omega)
  | lit w => exact (Lay.tup (n := m) (c (hw w (.inl o.2) m) nil)).mono (by show m + 1 ≤ 1 + m; omega)
  | one w x => exact (Lay.tup (n := m) (c (hw w (.inr (.inl o.2.1)) m) (c (S m x o.2.2) f))).mono (by show m + 1 ≤ 1 + m; omega)
  | fn xs =>
    have p1 := p (fun z => by rw [z] at o; exact absurd o.1 (by decide))
    obtain ⟨m', rfl⟩ : ∃ m', m = m' + 1 := ⟨m - 1, by omega⟩
    exact (Lay.tup (n := m' + 1) (c (S _ "fn" (by decide +kernel)) (c (lay_strs o.2.2 m') f))).mono (by show m' + 1 + 1 ≤ 1 + (m' + 1); omega)
  | bind w xs =>
    refine (Lay.tup (n := m + 2) (c (hw w (.inr (.inr (.inl o.2.1))) _) (c (Lay.tup (n := m + 1) fun d hd => ?_) fun d hd => (f d (List.mem_of_mem_drop hd)).mono (by omega)))).mono (by show m + 2 + 1 ≤ 3 + m; omega)
    obtain ⟨q, hq, rfl⟩ := List.mem_map.mp hd
    have hz := List.of_mem_zip (show (q.1, q.2) ∈ xs.zip ds from hq)
    refine Lay.tup (n := m) fun d hd => ?_
    simp only [List.mem_cons, List.not_mem_nil, or_false] at hd
    rcases hd with rfl | rfl
    · exact .str (o.2.2 _ hz.1) _
    · exact f _ hz.2
  | doo => exact (Lay.tup (n := m + 1) (c (S _ "do" (by decide +kernel)) (c (Lay.tup f) nil))).mono (by show m + 1 + 1 ≤ 2 + m; omega)
  | call =>
    refine (Lay.tup (n := m + 1) (c (S _ "call" (by decide +kernel)) fun d hd => ?_)).mono (by show m + 1 + 1 ≤ 2 + m; omega)
    rcases List.mem_append.mp hd with hd | hd
    · exact (f d (List.mem_of_mem_take hd)).mono (by omega)
    · cases List.mem_singleton.mp hd
      exact Lay.tup fun d q => f d (List.mem_of_mem_drop q)
  | op o' => exact (Lay.tup (n := m + 1) (c (S _ "op" (by decide +kernel)) (c (S _ o' o) (c (Lay.tup f) nil)))).mono (by show m + 1 + 1 ≤ 2 + m; omega)
  | plain w => exact (Lay.tup (n := m) (c (hw w (.inr (.inr (.inr o))) m) f)).mono (by have := wt_pos b (.plain w); omega)
theorem lay_dd (b : Nat) (t : Tr) : t.ok → Lay (t.dd b) t.enc := by
  refine tr_ind (P := fun t => t.ok → Lay (t.dd b) t.enc) (fun h ps ih o => ?_) t
  have o' : hok h ps.length ∧ ps.length ≤ 11 ∧ Tr.oks ps := o
  show Lay (wt b h + Tr.dds b ps) (encH h (Tr.encL ps))
  refine lay_encD (by rw [encL_len]; exact o'.1) (fun d hd => ?_) fun z => ?_
  · rw [encL_map] at hd
    obtain ⟨u, m, rfl⟩ := List.mem_map.mp hd
    exact (ih u m (oks_iff.mp o'.2.2 u m)).mono (dds_le.mp (Nat.le_refl _) u m)
  · cases ps with
    | nil => exact absurd rfl z
    | cons u r =>
      have := dd_pos b u
      show 1 ≤ max (u.dd b) (Tr.dds b r)
      omega
/-! ### where a name is used -/
def baseU (x : Str) : Hd → List (List Int × Str)
  | .name y => if y = x then [([], "read")] else []
  | .one w y => if w = "set" ∧ y = x then [([], "set")] else []
  | _ => []
def isNm (x : Str) : Hd → Bool
  | .name y => decide (y = x)
  | _ => false
/-- the called part of a call of one argument that is a name -/
def cal (h : Hd) (n i : Nat) (t : Tr) : Bool := isCall h && decide (n = 2) && decide (i = 0) && isName t.hd
def hw (c : Bool) (s : Str) : Str := if c = true then "called" else s
mutual
def Tr.uses (x : Str) : Tr → List (List Int × Str)
  | .mk h ps => baseU x h ++ Tr.usesL x h ps.length 0 ps
def Tr.usesL (x : Str) (h : Hd) (n : Nat) : Nat → List Tr → List (List Int × Str)
  | _, [] => []
  | i, t :: ts => (if x ∈ under h n i then [] else (t.uses x).map fun p => (((i : Nat) : Int) :: p.1, hw (cal h n i t) p.2)) ++ Tr.usesL x h n (i + 1) ts
end
def rawL (x : Str) (h : Hd) (n : Nat) : Nat → List Tr → List (List Int × Str)
  | _, [] => []
  | i, t :: ts => (if x ∈ under h n i then [] else (t.uses x).map fun p => (((i : Nat) : Int) :: p.1, p.2)) ++ rawL x h n (i + 1) ts
theorem usesL_snoc (x : Str) (h : Hd) (n : Nat) (t : Tr) : ∀ (ts : List Tr) (i : Nat), Tr.usesL x h n i (ts ++ [t]) = Tr.usesL x h n i ts ++ (if x ∈ under h n (i + ts.length) then [] else (t.uses x).map fun p => (((i + ts.length : Nat) : Int) :: p.1, hw (cal h n (i + ts.length) t) p.2))
  | [], i => by
    show (if x ∈ under h n i then [] else _) ++ [] = [] ++ _
    simp
  | a :: ts, i => by
    show (if x ∈ under h n i then [] else _) ++ Tr.usesL x h n (i + 1) (ts ++ [t]) = ((if x ∈ under h n i then [] else _) ++ Tr.usesL x h n (i + 1) ts) ++ _
    rw [usesL_snoc x h n t ts (i + 1), List.append_assoc, List.length_cons, show i + 1 + ts.length = i + (ts.length + 1) by omega]
theorem rawL_snoc (x : Str) (h : Hd) (n : Nat) (t : Tr) : ∀ (ts : List Tr) (i : Nat), rawL x h n i (ts ++ [t]) = rawL x h n i ts ++ (if x ∈ under h n (i + ts.length) then [] else (t.uses x).map fun p => (((i + ts.length : Nat) : Int) :: p.1, p.2))
  | [], i => by
    show (if x ∈ under h n i then [] else _) ++ [] = [] ++ _
    simp
  | a :: ts, i => by
    show (if x ∈ under h n i then [] else _) ++ rawL x h n (i + 1) (ts ++ [t]) = ((if x ∈ under h n i then [] else _) ++ rawL x h n (i + 1) ts) ++ _
    rw [rawL_snoc x h n t ts (i + 1), List.append_assoc, List.length_cons, show i + 1 + ts.length = i + (ts.length + 1) by omega]
theorem raw_eq {x : Str} {h : Hd} {n : Nat} : ∀ {ts : List Tr} {i : Nat}, (∀ j t, ts[j]? = some t → cal h n (i + j) t = true → t.uses x = []) → rawL x h n i ts = Tr.usesL x h n i ts
  | [], _, _ => rfl
  | t :: ts, i, q => by
    show (if x ∈ under h n i then [] else _) ++ rawL x h n (i + 1) ts = (if x ∈ under h n i then [] else _) ++ Tr.usesL x h n (i + 1) ts
    have e1 := raw_eq (x := x) (h := h) (n := n) (ts := ts) (i := i + 1) fun j t' e c => q (j + 1) t' (by simpa using e) (by rw [show i + (j + 1) = i + 1 + j by omega]; exact c)
    rw [e1]
    congr 1
    by_cases m : x ∈ under h n i
    · rw [if_pos m, if_pos m]
    · rw [if_neg m, if_neg m]
      by_cases c : cal h n i t = true
      · rw [q 0 t rfl c]; rfl
      · refine List.map_congr_left fun p _ => ?_
        show _ = (((i : Nat) : Int) :: p.1, (if cal h n i t = true then "called" else p.2 : Str))
        rw [if_neg c]
theorem baseU_len (x : Str) (h : Hd) : (baseU x h).length ≤ 1 := by
  cases h with
  | name y => show (if y = x then [([], "read")] else [] : List (List Int × Str)).length ≤ 1; split <;> simp
  | one w y => show (if w = "set" ∧ y = x then [([], "set")] else [] : List (List Int × Str)).length ≤ 1; split <;> simp
  | _ => exact Nat.zero_le _
mutual
theorem uses_len (x : Str) : ∀ t : Tr, (t.uses x).length ≤ t.size
  | .mk h ps => by
    have h1 := baseU_len x h
    have h2 := usesL_len x h ps.length 0 ps
    show (baseU x h ++ Tr.usesL x h ps.length 0 ps).length ≤ Tr.sizes ps + 1
    rw [List.length_append]
    omega
theorem usesL_len (x : Str) (h : Hd) (n : Nat) : ∀ (i : Nat) (ts : List Tr), (Tr.usesL x h n i ts).length ≤ Tr.sizes ts
  | _, [] => Nat.le_refl _
  | i, t :: ts => by
    have h1 := uses_len x t
    have h2 := usesL_len x h n (i + 1) ts
    show ((if x ∈ under h n i then [] else _) ++ Tr.usesL x h n (i + 1) ts).length ≤ t.size + Tr.sizes ts
    rw [List.length_append]
    split
    · simp only [List.length_nil]; omega
    · rw [List.length_map]; omega
end
theorem rawL_len (x : Str) (h : Hd) (n : Nat) : ∀ (i : Nat) (ts : List Tr), (rawL x h n i ts).length ≤ Tr.sizes ts
  | _, [] => Nat.le_refl _
  | i, t :: ts => by
    have h1 := uses_len x t
    have h2 := rawL_len x h n (i + 1) ts
    show ((if x ∈ under h n i then [] else _) ++ rawL x h n (i + 1) ts).length ≤ t.size + Tr.sizes ts
    rw [List.length_append]
    split
    · simp only [List.length_nil]; omega
    · rw [List.length_map]; omega
def useD (p : List Int × Str) : PyData := .tuple [pathI p.1, .str p.2]
theorem flat_useD (p : List Int × Str) : flatD (useD p) = true := by
  have := flatDs_ints p.1
  simp [useD, pathI, flatD, flatDs, this]
theorem flat_usesD (l : List (List Int × Str)) : flatDs (l.map useD) = true := flatDs_of _ fun d hd => by
  obtain ⟨p, _, rfl⟩ := List.mem_map.mp hd
  exact flat_useD p
mutual
theorem use_ok (x : Str) : ∀ t : Tr, ∀ p ∈ t.uses x, p.1.length ≤ t.size ∧ sok p.2
  | .mk h ps, p, m => by
    have m' : p ∈ baseU x h ++ Tr.usesL x h ps.length 0 ps := m
    rcases List.mem_append.mp m' with m' | m'
    · cases h with
      | name y =>
        have m2 : p ∈ (if y = x then [([], "read")] else [] : List (List Int × Str)) := m'
        split at m2
        · rw [List.mem_singleton.mp m2]; exact ⟨Nat.zero_le _, by decide +kernel⟩
        · cases m2
      | one w y =>
        have m2 : p ∈ (if w = "set" ∧ y = x then [([], "set")] else [] : List (List Int × Str)) := m'
        split at m2
        · rw [List.mem_singleton.mp m2]; exact ⟨Nat.zero_le _, by decide +kernel⟩
        · cases m2
      | _ => cases m'
    · have := useL_ok x h ps.length 0 ps p m'
      exact ⟨by show p.1.length ≤ Tr.sizes ps + 1; omega, this.2⟩
theorem useL_ok (x : Str) (h : Hd) (n : Nat) : ∀ (i : Nat) (ts : List Tr), ∀ p ∈ Tr.usesL x h n i ts, p.1.length ≤ Tr.sizes ts + 1 ∧ sok p.2
  | _, [], _, m => by cases m
  | i, t :: ts, p, m => by
    have m' : p ∈ (if x ∈ under h n i then [] else (t.uses x).map fun p => (((i : Nat) : Int) :: p.1, hw (cal h n i t) p.2)) ++ Tr.usesL x h n (i + 1) ts := m
    rcases List.mem_append.mp m' with m' | m'
    · split at m'
      · cases m'
      · obtain ⟨q, hq, rfl⟩ := List.mem_map.mp m'
        have := use_ok x t q hq
        refine ⟨?_, ?_⟩
        · show q.1.length + 1 ≤ t.size + Tr.sizes ts + 1
          omega
        · show sok (if cal h n i t = true then "called" else q.2 : Str)
          split
          · decide +kernel
          · exact this.2
    · have := useL_ok x h n (i + 1) ts p m'
      exact ⟨by show p.1.length ≤ t.size + Tr.sizes ts + 1; omega, this.2⟩
end
/-- the first use of a call of a name -/
theorem raw_call {x : Str} {y : Str} {b : Tr} (e : y = x) : ∃ r : List (List Int × Str), rawL x .call 2 0 [.mk (.name y) [], b] = ([0], ("read" : Str)) :: r ∧ Tr.usesL x .call 2 0 [.mk (.name y) [], b] = ([0], ("called" : Str)) :: r := by
  refine ⟨(b.uses x).map fun p => (((1 : Nat) : Int) :: p.1, p.2), ?_, ?_⟩
  · show (if x ∈ under .call 2 0 then [] else ((Tr.mk (.name y) []).uses x).map _) ++ ((if x ∈ under .call 2 1 then [] else _) ++ []) = _
    have e1 : (Tr.mk (.name y) []).uses x = [([], ("read" : Str))] := by
      show (if y = x then [([], "read")] else [] : List (List Int × Str)) ++ [] = _
      rw [if_pos e]; rfl
    rw [if_neg (by intro z; cases z), if_neg (by intro z; cases z), e1, List.append_nil]
    rfl
  · show (if x ∈ under .call 2 0 then [] else ((Tr.mk (.name y) []).uses x).map _) ++ ((if x ∈ under .call 2 1 then [] else _) ++ []) = _
    have e1 : (Tr.mk (.name y) []).uses x = [([], ("read" : Str))] := by
      show (if y = x then [([], "read")] else [] : List (List Int × Str)) ++ [] = _
      rw [if_pos e]; rfl
    rw [if_neg (by intro z; cases z), if_neg (by intro z; cases z), e1, List.append_nil]
    rfl
theorem enc_hd (h : Hd) (ds : List PyData) : ∃ r, encH h ds = .tuple (.str (wd h) :: r) ∧ (∀ y, h = .name y → r = [.str y]) := by
  cases h with
  | name y => exact ⟨_, rfl, fun z e => by cases e; rfl⟩
  | _ => exact ⟨_, rfl, fun z e => by cases e⟩
theorem eq_nameT {h : Hd} {n : Nat} (o : hok h n) (ds : List PyData) (x : Str) : PyData.eqv (encH h ds) (.tuple [.str "name", .str x]) = isNm x h := by
  obtain ⟨r, e, er⟩ := enc_hd h ds
  rw [e]
  have e2 := eq_name o
  rw [decS] at e2
  by_cases q : isName h = true
  · cases h with
    | name y =>
      rw [er y rfl]
      show PyData.eqvAll [.str "name", .str y] [.str "name", .str x] = decide (y = x)
      simp [PyData.eqvAll, PyData.eqv]
      by_cases z : y = x <;> simp [z]
    | _ => cases q
  · have q' : isName h = false := by cases z : isName h with | true => exact absurd z q | false => rfl
    rw [q'] at e2
    have q2 : ¬ wd h = "name" := of_decide_eq_false e2
    have q3 : isNm x h = false := by
      cases h with
      | name y => exact absurd rfl q
      | _ => rfl
    rw [q3]
    show PyData.eqvAll (.str (wd h) :: r) [.str "name", .str x] = false
    simp [PyData.eqvAll, PyData.eqv, q2]
/-- a name that is no longer free is not used -/
theorem cal_no {x : Str} {t : Tr} (o : t.ok) (n : isName t.hd = true) (e : isNm x t.hd = false) : t.uses x = [] := by
  cases t with
  | mk h ps =>
    have o' : hok h ps.length ∧ ps.length ≤ 11 ∧ Tr.oks ps := o
    cases h with
    | name y =>
      have e0 : ps = [] := List.length_eq_zero_iff.mp o'.1.1
      subst e0
      have e' : ¬ y = x := of_decide_eq_false e
      show (if y = x then [([], "read")] else [] : List (List Int × Str)) ++ [] = []
      rw [if_neg e']; rfl
    | _ => cases n

/-! ### small facts on parts -/
theorem okP {h : Hd} {ps : List Tr} (o : (Tr.mk h ps).ok) : hok h ps.length ∧ ps.length ≤ 11 ∧ ∀ t ∈ ps, t.ok := by
  have o' : hok h ps.length ∧ ps.length ≤ 11 ∧ Tr.oks ps := o
  exact ⟨o'.1, o'.2.1, fun t m => oks_iff.mp o'.2.2 t m⟩
theorem encLat {ps : List Tr} {i : Nat} {d : PyData} (h : (Tr.encL ps)[i]? = some d) : ∃ c, ps[i]? = some c ∧ d = c.enc := by
  rw [encL_map] at h
  obtain ⟨c, e1, e2⟩ := map_at h
  exact ⟨c, e1, e2⟩
theorem takeNext {α : Type} {xs : List α} {i : Nat} {c : α} (h : xs[i]? = some c) : xs.take (i + 1) = xs.take i ++ [c] ∧ (xs.take i).length = i := by
  refine ⟨by rw [List.take_add_one, h]; rfl, ?_⟩
  have := (List.getElem?_eq_some_iff.mp h).1
  rw [List.length_take]
  omega
theorem encsInv {K : PySem.W.Frag} {H : Hp} {v : V} {xs : List Str} (h : Dp K H v (encs xs)) : ∃ q, v = .ref q ∧ SqT K H q (xs.map V.str) := by
  obtain ⟨q, vs, rfl, hq, hv⟩ := dp_tup h
  rw [dpAll_strs_inv hv] at hq
  exact ⟨q, rfl, hq⟩
theorem sizeMem {t : Tr} : ∀ {ps : List Tr}, t ∈ ps → t.size ≤ Tr.sizes ps
  | a :: ps, h => by
    show t.size ≤ a.size + Tr.sizes ps
    rcases List.mem_cons.mp h with rfl | h
    · omega
    · have := sizeMem h
      omega
theorem sizesTake : ∀ (ps : List Tr) (i : Nat), Tr.sizes (ps.take i) ≤ Tr.sizes ps
  | [], i => by rw [List.take_nil]; exact Nat.le_refl _
  | a :: ps, 0 => Nat.zero_le _
  | a :: ps, i + 1 => by
    have := sizesTake ps i
    show a.size + Tr.sizes (ps.take i) ≤ a.size + Tr.sizes ps
    omega
theorem useD_inv {K : PySem.W.Frag} {H : Hp} {v : V} {p : List Int × Str} (h : Dp K H v (useD p)) : ∃ a b, v = .ref a ∧ SqT K H a [.ref b, .str p.2] ∧ SqT K H b (p.1.map V.int) := by
  obtain ⟨a, its, rfl, hs, hi⟩ := dp_tup h
  cases hi with
  | cons h1 h2 =>
    cases h2 with
    | cons h3 h4 =>
      cases h4
      obtain ⟨b, rfl, hb⟩ := pathI_inv h1
      rw [dp_str h3] at hs
      exact ⟨a, b, rfl, hs, hb⟩
theorem dp_useD {K : PySem.W.Frag} {H : Hp} {a b : Addr} {p : List Int × Str} (h : SqT K H a [.ref b, .str p.2]) (hb : SqT K H b (p.1.map V.int)) : Dp K H (.ref a) (useD p) :=
  .tup h (.cons (dp_pathI hb) (.cons (.str _) .nil))
theorem name_only {x : Str} {h : Hd} {ps : List Tr} (o : hok h ps.length) (e : isNm x h = true) : h = .name x ∧ ps = [] := by
  cases h with
  | name y =>
    rw [of_decide_eq_true (show decide (y = x) = true from e)]
    exact ⟨rfl, List.length_eq_zero_iff.mp o.1⟩
  | _ => cases e
end Cm

namespace K13
open PySem L2 Cm
/-- the uses of a name in a tree -/
def spUses (K : PySem.W.Frag) (n : Nat) : Sp := fun vs H Q _ => ∃ (v : V) (x : Str) (t : Tr), vs = [v, .str x] ∧ Dp K H v t.enc ∧ t.ok ∧ t.dep ≤ n ∧ t.dd 0 ≤ 64 ∧ t.size ≤ 10000 ∧ sok x ∧
  ∀ (r : Addr) (us : List V) (H' : Hp), Same H H' → SqT K H' r us → DpAll K H' us ((t.uses x).map useD) → Q (.ref r) H'
section
variable {P : Program} {w : World} {K : PySem.W.Frag} {mg : Str → Option Value} {base : Heap}
abbrev s_p_uses_of : Stmt := top 5
abbrev N_p_uses_of : List Str := ["tree", "name", "uses", "bound", "index", "part", "path", "how"]
theorem sc_p_uses_of : FnScope N_p_uses_of ["tree", "name"] (defScope s_p_uses_of) := ⟨rfl, rfl, rfl, by decide +kernel, rfl, by decide +kernel, by decide +kernel⟩
theorem ok_uses_of (T : Txt mg) (c_p_parts_of : Cl P w K mg base 1 "parts_of" (spParts K)) (c_p_names_bound : Cl P w K mg base 2 "names_bound" (spBound K)) (D : At K mg "uses_of" s_p_uses_of ["tree", "name"]) : ∀ n, Cl P w K mg base (n + 3) "uses_of" (spUses K n) := by
  intro n
  induction n with
  | zero =>
    refine cl_of (k := 2) D sc_p_uses_of (fun vs H Q E h => ?_) fun f cdv A outer s H vs Q E hr h => ?_
    · obtain ⟨v, x, t, rfl, _⟩ := h
      rfl
    · obtain ⟨v, x, t, _, _, _, z, _⟩ := h
      cases t with
      | mk hd ps => exact absurd z (by show ¬ (Tr.deps ps + 1 ≤ 0); omega)
  | succ n ih =>
    refine cl_of (k := n + 3) D sc_p_uses_of (fun vs H Q E h => ?_) fun f cdv A outer s H vs Q E hr h => ?_
    · obtain ⟨v, x, t, rfl, _⟩ := h
      rfl
    · obtain ⟨v, x, t, rfl, hd, o, hdep, hdd, hsz, hx, k⟩ := h
      have hlay := (lay_dd 0 t o).mono hdd
      cases t with
      | mk h ps =>
      obtain ⟨o1, o2, o3⟩ := okP o
      have hsz' : Tr.sizes ps + 1 ≤ 10000 := hsz
      obtain ⟨a, its, rfl, hs, hx⟩ := view hd
      refine ⟨_, (pss_cons (ps_if (pt_cmpR (op_eqD hr.units) (pv 0) (pe_tup (pa_cons pe_str (pa_cons (pv 1) pa_nil))) (nomark _))
        (pss_one (ps_ret (pe_tup (pa_cons (pe_tup (pa_cons (pe_tup pa_nil) (pa_cons pe_str pa_nil))) pa_nil))))
        pss_nil)
      (pss_mid (ps_set (i := 2) sc_p_uses_of.nd rfl (Or.inl rfl) (pe_ifExp (PW.pt (pw_and (pt_cmpR op_eq (pe_ix ix_tup (pv 0) pe_int (fun _ _ => rfl)) pe_str (nomark _)) (pw_and1 (pt_cmpR op_eq (pe_ix ix_tup (pv 0) pe_int (fun _ _ => rfl)) (pv 1) (nomark _))))) (pe_lst (pa_cons (pe_tup (pa_cons (pe_tup pa_nil) (pa_cons pe_str pa_nil))) pa_nil)) (pe_lst pa_nil)))
      (pss_cons (ps_set (i := 3) sc_p_uses_of.nd rfl (Or.inl rfl) (pe_c c_p_names_bound hr (by omega) (by rfl) (pa_cons (pv 0) pa_nil)))
      (pss_mid (ps_for PassesOwn.never rfl (pi_enumT (by rfl) T.enumerate (pa_cons (pe_c c_p_parts_of hr (by omega) (by rfl) (pa_cons (pv 0) pa_nil)) pa_nil)) (pg_tup (by rfl) (pgs_cons (pg_name (i := 4) sc_p_uses_of.nd rfl (Or.inr rfl)) (pgs_cons (pg_name (i := 5) sc_p_uses_of.nd rfl (Or.inl rfl)) pgs_nil)))
        (pss_one (ps_if (pt_cmpR op_notIn_seq (pv 1) (pe_ix ix_tup (pv 3) (pv 4) (fun _ _ => rfl)) (by rfl))
          (pss_one (ps_expr (pe_bm PySem.F.plainAttrs_list PySem.F.slot_list_extend PySem.F.type_list_extend mt_extend (pv 2) (pa_cons (pe_lc (own := [("path", 6), ("how", 7)]) (g := gTup K 2 (gCons (gName 6) (gCons (gName 7) gNil))) rfl sc_p_uses_of.nd (pi_tup (pe_c ih hr (by omega) (by rfl) (pa_cons (pv 5) (pa_cons (pv 1) pa_nil)))) (blkOk_by (N := N_p_uses_of) (sc := defScope s_p_uses_of) (by decide +kernel))
      (fun _ _ _ _ _ => (pg_tup rfl (pgs_cons (pg_name (i := 6) sc_p_uses_of.nd rfl (Or.inl rfl)) (pgs_cons (pg_name (i := 7) sc_p_uses_of.nd rfl (Or.inl rfl)) pgs_nil))))
      (fun _ _ _ _ _ => pts_nil)
      (fun _ _ _ _ _ => (pe_tup (pa_cons (pe_op (ko_catA (K := K)) (pe_tup (pa_cons (pv 4) pa_nil)) (pv 6)) (pa_cons (pv 7) pa_nil))))) pa_nil))))
          pss_nil)))
      (pss_mid (ps_if (PW.pt (pw_and (pt_cmpR op_eq (pe_ix ix_tup (pv 0) pe_int (fun _ _ => rfl)) pe_str (nomark _)) (pw_and (pt_cmpR (op_eqD hr.units) (pe_ix ix_tup (pv 0) pe_int (fun _ _ => rfl)) (pe_tup (pa_cons pe_str (pa_cons (pv 1) pa_nil))) (nomark _)) (pw_and1 (pt_cmpR op_eq (pe_callB call_len_seq (by rfl) T.len (by decide +kernel) (pa_cons (pe_ix ix_tup (pv 0) pe_int (fun _ _ => rfl)) pa_nil)) pe_int (nomark _))))))
        (pss_one (ps_asg (pe_tup (pa_cons (pe_tup (pa_cons pe_int pa_nil)) (pa_cons pe_str pa_nil))) (pg_sub (pv 2) pe_int set_list)))
        pss_nil)
      (pss_one (ps_ret (pe_tupleOf (by rfl) T.tuple (pv 2))))))))), ?_⟩
      have lname : SeqAt.shaped (.tuple [.str "name", .str x]) = true := (Lay.tup (n := 0) fun d m => by
        rcases List.mem_cons.mp m with rfl | m
        · exact .str (by decide +kernel) _
        · rw [List.mem_singleton.mp m]
          exact .str (by assumption) _).sh (by decide)
      refine ⟨_, rfl, _, rfl, by show 2 ≤ sizeLine; decide, fun p0 hp0 => ?_⟩
      have s0 := same_new (o := .tup [.str "name", .str x]) hp0
      refine ⟨encH h (Tr.encL ps), _, dp_same s0 _ _ hd, .tup (.inl (.inl upd_same)) (.cons (.str _) (.cons (.str _) .nil)), hlay.sh (by decide), lname, _, rfl, ?_⟩
      rw [eq_nameT o1]
      generalize upd H p0 (.tup [.str "name", .str x]) = H0 at *
      have hs0 := sqt_same s0 hs
      have hx0 := hx.same s0
      have hd0 := dp_same s0 _ _ hd
      cases eN : isNm x h with
      | true =>
        obtain ⟨rfl, rfl⟩ := name_only o1 eN
        refine iteT ⟨by show 0 ≤ sizeLine; decide, fun t1 ht1 => ⟨by show 2 ≤ sizeLine; decide, fun t2 ht2 => ⟨by show 1 ≤ sizeLine; decide, fun t3 ht3 => ?_⟩⟩⟩
        have s1 := same_new (o := .tup []) ht1
        have s2 := same_new (o := .tup [.ref t1, .str "read"]) ht2
        have s3 := same_new (o := .tup [.ref t2]) ht3
        refine k t3 [.ref t2] _ (s0.trans (s1.trans (s2.trans s3))) (.inl (.inl upd_same)) ?_
        have e1 : (Tr.mk (.name x) []).uses x = [([], ("read" : Str))] := by
          show (if x = x then [([], "read")] else [] : List (List Int × Str)) ++ [] = _
          rw [if_pos rfl]; rfl
        rw [e1]
        refine .cons (dp_useD (p := ([], "read")) (b := t1) (.inl (.inl (s3 _ _ upd_same))) ?_) .nil
        exact .inl (.inl (s3 _ _ (s2 _ _ upd_same)))
      | false =>
        refine iteF ?_
        refine ⟨fun σ' H' => ∃ (F : Addr) (acc : List V), σ' = [some (.ref a), some (.str x), some (.ref F), none, none, none, none, none] ∧ Same H H' ∧ H F = none ∧ H' F = some (.lst acc) ∧ DpAll K H' acc ((baseU x h).map useD), ?_, ?_⟩
        · refine ⟨_, rfl, a, its, _, _, rfl, rfl, hs0, hx0.head, rfl, _, rfl, ?_⟩
          rw [eq_set o1]
          cases es : (kd h == 3 && !isTak h) with
          | true =>
            cases h with
            | one w y =>
              have hw : (true && !(!decide (w = "set"))) = true := es
              rw [Bool.true_and, Bool.not_not] at hw
              have hw' := of_decide_eq_true hw
              obtain ⟨vs, rfl, hv⟩ := hx0
              refine iteT ⟨_, rfl, a, _, _, _, rfl, rfl, hs0, atI_nat (j := 1) rfl, _, rfl, rfl, _, rfl, ?_⟩
              rw [decS]
              by_cases q : y = x
              · rw [decide_eq_true q]
                refine iteT ⟨by show 0 ≤ sizeLine; decide, fun t1 ht1 => ⟨by show 2 ≤ sizeLine; decide, fun t2 ht2 => ⟨by show 1 ≤ sizeLine; decide, fun F hF => ?_⟩⟩⟩
                have s1 := same_new (o := .tup []) ht1
                have s2 := same_new (o := .tup [.ref t1, .str "set"]) ht2
                have s3 := same_new (o := .lst [.ref t2]) hF
                refine ⟨F, [.ref t2], rfl, s0.trans (s1.trans (s2.trans s3)), free_of (s0.trans (s1.trans s2)) hF, upd_same, ?_⟩
                have e1 : baseU x (.one w y) = [([], ("set" : Str))] := if_pos ⟨hw', q⟩
                rw [e1]
                refine .cons (dp_useD (p := ([], "set")) (b := t1) (.inl (.inl (s3 _ _ upd_same))) ?_) .nil
                exact .inl (.inl (s3 _ _ (s2 _ _ upd_same)))
              · rw [decide_eq_false q]
                refine iteF ⟨by show 0 ≤ sizeLine; decide, fun F hF => ⟨F, [], rfl, s0.trans (same_new hF), free_of s0 hF, upd_same, ?_⟩⟩
                have e1 : baseU x (.one w y) = [] := if_neg (fun z => q z.2)
                rw [e1]
                exact .nil
            | _ => cases es
          | false =>
            refine iteF (iteF ⟨by show 0 ≤ sizeLine; decide, fun F hF => ⟨F, [], rfl, s0.trans (same_new hF), free_of s0 hF, upd_same, ?_⟩⟩)
            have e1 : baseU x h = [] := by
              cases h with
              | name y => exact if_neg (of_decide_eq_false (show decide (y = x) = false from eN))
              | one w y =>
                have hw : (true && !(!decide (w = "set"))) = false := es
                rw [Bool.true_and, Bool.not_not] at hw
                exact if_neg (fun z => of_decide_eq_false hw z.1)
              | _ => rfl
            rw [e1]
            exact .nil
        · rintro σ' H1 ⟨F, acc0, rfl, s1, nF, hF1, ha1⟩
          refine ⟨_, rfl, .ref a, h, Tr.encL ps, rfl, dp_same s1 _ _ hd, by rw [encL_len]; exact o1, flat_encL ps, by rw [encL_len]; omega, fun tb us2 H2 s2 htb hus2 => ?_⟩
          refine ⟨fun σ' H' => ∃ (acc : List V) (v4 v5 : Option V), σ' = [some (.ref a), some (.str x), some (.ref F), some (.ref tb), v4, v5, none, none] ∧ Same H H' ∧ H' F = some (.lst acc) ∧ DpAll K H' acc ((baseU x h ++ rawL x h ps.length 0 ps).map useD), ?_, ?_⟩
          · refine ⟨_, rfl, .ref a, h, Tr.encL ps, rfl, dp_same (s1.trans s2) _ _ hd, by rw [encL_len]; exact o1, flat_encL ps, by rw [encL_len]; omega, fun q us H3 s3 hq hu => ?_⟩
            have hul := DpAll.len hu
            rw [encL_len] at hul
            rw [encL_len] at hus2
            refine ⟨q, _, rfl, hq, ?_⟩
            refine for_it (walk_enumT (xs := us)) (fun i σ H' => ∃ (acc : List V) (v4 v5 : Option V), σ = [some (.ref a), some (.str x), some (.ref F), some (.ref tb), v4, v5, none, none] ∧ Same H H' ∧ SqT K H' q us ∧ DpAll K H' us (Tr.encL ps) ∧ SqT K H' tb us2 ∧ DpAll K H' us2 (bnds h ps.length) ∧ H' F = some (.lst acc) ∧ DpAll K H' acc ((baseU x h ++ rawL x h ps.length 0 (ps.take i)).map useD))
              ⟨_, none, none, rfl, s1.trans (s2.trans s3), hq, hu, sqt_same s3 htb, dps_same s3 _ _ hus2, s3 _ _ (s2 _ _ hF1), by
                rw [List.take_zero]
                show DpAll K H3 acc0 ((baseU x h ++ []).map useD)
                rw [List.append_nil]
                exact dps_same (s2.trans s3) _ _ ha1⟩ (fun i σ H' _ z => ?_) ?_ ?_
            · obtain ⟨_, _, _, _, _, z, _⟩ := z
              exact z
            · rintro i xv σ H4 H5 hi ⟨acc, v4, v5, rfl, s4, hq4, hu4, htb4, hus4, hF4, ha4⟩ ⟨T1, x1, x2, rfl, hT, rfl, e1, e2⟩
              cases e1
              have s5 := same_new (o := .tup [.int (i : Nat), x2]) hT
              obtain ⟨d, g1, g2⟩ := DpAll.atV hu4 e2
              obtain ⟨c, ec, rfl⟩ := encLat g1
              refine ⟨T1, _, rfl, .inl (.inl upd_same), rfl, _, _, rfl, _, _, rfl, rfl, ?_⟩
              have hF5 := s5 _ _ hF4
              have S5 := s4.trans s5
              have hq5 := sqt_same s5 hq4
              have hu5 := dps_same s5 _ _ hu4
              have htb5 := sqt_same s5 htb4
              have hus5 := dps_same s5 _ _ hus4
              have ha5 := dps_same s5 _ _ ha4
              have g3 := dp_same s5 _ _ g2
              generalize upd H4 T1 (.tup [.int (i : Nat), x2]) = H5 at *
              have hcm : c ∈ ps := List.mem_of_getElem? ec
              have hcs : c.size ≤ 10000 := by have := sizeMem hcm; omega
              have hdc : c.dd 0 ≤ 64 := by
                have := dds_le.mp (Nat.le_refl (Tr.dds 0 ps)) c hcm
                have h6 : wt 0 h + Tr.dds 0 ps ≤ 64 := hdd
                omega
              have hin : i < ps.length := (List.getElem?_eq_some_iff.mp ec).1
              obtain ⟨et, hil⟩ := takeNext ec
              have hbl := DpAll.len hus5
              have hbl2 : us2.length = ps.length := by
                rw [hbl]
                unfold bnds
                rw [List.length_map, List.length_range]
              obtain ⟨vb, evb⟩ : ∃ vb, us2[i]? = some vb := ⟨_, List.getElem?_eq_getElem (by omega)⟩
              obtain ⟨db, g4, g5⟩ := DpAll.atV hus5 evb
              rw [under_at hin] at g4
              cases g4
              obtain ⟨qb, rfl, hqb⟩ := encsInv g5
              refine ⟨_, rfl, _, rfl, _, rfl, tb, _, _, _, rfl, rfl, htb5, atI_nat evb, qb, _, rfl, .inr hqb, rfl, flat_strV _, _, rfl, ?_⟩
              show if (!inV (.str x) ((under h ps.length i).map V.str)) = true then _ else _
              rw [in_words]
              by_cases qm : x ∈ under h ps.length i
              · rw [decide_eq_true qm]
                refine iteF ⟨acc, _, _, rfl, S5, hq5, hu5, htb5, hus5, hF5, ?_⟩
                rw [et, rawL_snoc, hil, Nat.zero_add, if_pos qm, List.append_nil]
                exact ha5
              rw [decide_eq_false qm]
              refine iteT ?_
              refine ⟨_, rfl, .inl ⟨rfl, _, .inl (.inl hF5)⟩, _, rfl, _, rfl, x2, x, c, rfl, g3, o3 c hcm, dep_mk.mp hdep c hcm, hdc, hcs, by assumption, fun r ws H6 s6 hr6 hw6 => ?_⟩
              refine ⟨r, rfl, ⟨_, hr6⟩, fun L hL => ?_⟩
              have hwl := DpAll.len hw6
              rw [List.length_map] at hwl
              have hcl := uses_len x c
              refine lc_data (K := K) (walk_tup (xs := ws)) (fun m => ((c.uses x)[m]?).map fun p => useD (((i : Nat) : Int) :: p.1, p.2)) hL (by omega) (fun H' s => sqt_same s hr6) (fun m _ d e => ?_) ?_ ?_
              · obtain ⟨p, _, rfl⟩ := Option.map_eq_some_iff.mp e
                exact flat_useD _
              · rintro m xw H7 H8 hm s7 ⟨rfl, e7⟩ Q1 Q0 q1 q0
                obtain ⟨d, g6, g7⟩ := DpAll.atV hw6 e7
                obtain ⟨p, ep, rfl⟩ := map_at g6
                obtain ⟨ta, tp, rfl, hta, htp⟩ := useD_inv (dp_same s7 _ _ g7)
                refine ⟨ta, _, rfl, hta, rfl, _, _, rfl, _, _, rfl, rfl, rfl, ?_⟩
                refine ⟨_, rfl, by show 1 ≤ sizeLine; decide, fun t8 ht8 => ⟨_, rfl, ?_⟩⟩
                have s8 := same_new (o := .tup [.int (i : Nat)]) ht8
                have hpl := (use_ok x c p (List.mem_of_getElem? ep)).1
                refine cat_any (.inl (.inl upd_same)) (sqt_same s8 htp) (by rw [List.length_map]; exact Nat.le_trans (show 1 + p.1.length ≤ 200000 by omega) (by decide)) fun t9 H9 s9 ht9 => ?_
                refine ⟨_, rfl, by show 2 ≤ sizeLine; decide, fun t10 ht10 => ?_⟩
                have s10 := same_new (o := .tup [.ref t9, .str p.2]) ht10
                exact q1 _ _ (useD (((i : Nat) : Int) :: p.1, p.2)) (by rw [ep]; rfl) (s8.trans (s9.trans s10)) (dp_useD (.inl (.inl upd_same)) (sqt_same s10 ht9))
              · intro H7 bcc s7 hbcc hb7
                have e6 : (List.range ws.length).filterMap (fun m => ((c.uses x)[m]?).map fun p => useD (((i : Nat) : Int) :: p.1, p.2)) = ((c.uses x).map fun p => (((i : Nat) : Int) :: p.1, p.2)).map useD := by
                  rw [hwl, range_map, List.map_map]
                  rfl
                rw [e6] at hb7
                have S7 := s6.trans s7
                have hal := DpAll.len ha5
                have hbl := DpAll.len hb7
                have hr1 := rawL_len x h ps.length 0 (ps.take i)
                have hr2 := baseU_len x h
                have hr3 := sizesTake ps i
                simp only [List.length_map, List.length_append] at hal hbl
                refine ⟨F, L, acc, bcc, rfl, rfl, S7 _ _ hF5, hbcc, Nat.le_trans (show acc.length + bcc.length ≤ 50000 by omega) (by decide), ?_⟩
                have hF7 := S7 _ _ hF5
                refine ⟨acc ++ bcc, _, _, rfl, same_put (S5.trans S7) nF, sqt_put hF7 (sqt_same S7 hq5), dps_keep (fun _ _ q => sqt_put hF7 q) _ _ (flat_encL ps) (dps_same S7 _ _ hu5), sqt_put hF7 (sqt_same S7 htb5), dps_keep (fun _ _ q => sqt_put hF7 q) _ _ (flat_bnds h _) (dps_same S7 _ _ hus5), upd_same, ?_⟩
                rw [et, rawL_snoc, hil, Nat.zero_add, if_neg qm, ← List.append_assoc, List.map_append (l₁ := baseU x h ++ _)]
                have h8 := dps_keep (fun _ _ q => sqt_put (zs := acc ++ bcc) hF7 q) _ _ (flat_usesD _) (dps_same S7 _ _ ha5)
                have h9 := dps_keep (fun _ _ q => sqt_put (zs := acc ++ bcc) hF7 q) _ _ (flat_usesD _) hb7
                exact DpAll.app h8 h9
            · rintro σ H4 ⟨acc, v4, v5, rfl, s4, hq4, hu4, htb4, hus4, hF4, ha4⟩
              rw [List.take_of_length_le (by omega)] at ha4
              exact ⟨acc, v4, v5, rfl, s4, hF4, ha4⟩
          · rintro σ' H3 ⟨acc, v4, v5, rfl, s3, hF3, ha3⟩
            refine ⟨fun σ' H' => ∃ (acc : List V), σ' = [some (.ref a), some (.str x), some (.ref F), some (.ref tb), v4, v5, none, none] ∧ Same H H' ∧ H' F = some (.lst acc) ∧ DpAll K H' acc (((Tr.mk h ps).uses x).map useD), ?_, ?_⟩
            · have plain : rawL x h ps.length 0 ps = Tr.usesL x h ps.length 0 ps → DpAll K H3 acc (((Tr.mk h ps).uses x).map useD) := fun e => by
                rw [e] at ha3
                exact ha3
              have hs3 := sqt_same s3 hs
              have hx3 := hx.same s3
              refine ⟨_, rfl, a, its, _, _, rfl, rfl, hs3, hx3.head, rfl, _, rfl, ?_⟩
              rw [eq_call o1]
              cases eC : isCall h with
              | false =>
                refine iteF (iteF ⟨acc, rfl, s3, hF3, plain (raw_eq fun j t _ c => ?_)⟩)
                have c' : (isCall h && decide (ps.length = 2) && decide (0 + j = 0) && isName t.hd) = true := c
                rw [eC] at c'
                cases c'
              | true =>
                cases h with
                | call =>
                  refine iteT ?_
                  obtain ⟨q, us, vs, rfl, hu, hq, hv⟩ := hx3
                  cases ps with
                  | nil => exact absurd (show 1 ≤ 0 from o1) (by decide)
                  | cons t0 r =>
                  have hu' : DpAll K H3 us [t0.enc] := hu
                  obtain ⟨u0, rfl, hu0⟩ := dpAll_one hu'
                  refine ⟨_, rfl, a, _, _, _, rfl, rfl, hs3, atI_nat (j := 1) rfl, _, rfl, by show 2 ≤ sizeLine; decide, fun p1 hp1 => ?_⟩
                  have s4 := same_new (o := .tup [.str "name", .str x]) hp1
                  have ot := o3 t0 List.mem_cons_self
                  have ddt : t0.dd 0 ≤ 64 := by
                    have := dds_le.mp (Nat.le_refl (Tr.dds 0 (t0 :: r))) t0 List.mem_cons_self
                    have h6 : wt 0 .call + Tr.dds 0 (t0 :: r) ≤ 64 := hdd
                    omega
                  refine ⟨t0.enc, _, dp_same s4 _ _ hu0, .tup (.inl (.inl upd_same)) (.cons (.str _) (.cons (.str _) .nil)), ((lay_dd 0 t0 ot).mono ddt).sh (by decide), lname, _, rfl, ?_⟩
                  obtain ⟨h0, ps0⟩ := t0
                  obtain ⟨ot1, ot2, ot3⟩ := okP ot
                  show if PyData.eqv (encH h0 (Tr.encL ps0)) _ = true then _ else _
                  rw [eq_nameT ot1]
                  cases eM : isNm x h0 with
                  | false =>
                    refine iteF (iteF ⟨acc, rfl, s3.trans s4, s4 _ _ hF3, dps_same s4 _ _ (plain (raw_eq fun j t e c => ?_))⟩)
                    have c' : (isCall .call && decide ((Tr.mk h0 ps0 :: r).length = 2) && decide (0 + j = 0) && isName t.hd) = true := c
                    simp only [Bool.and_eq_true, decide_eq_true_eq] at c'
                    have ej : j = 0 := by omega
                    subst ej
                    cases e
                    exact cal_no ot c'.2 eM
                  | true =>
                    obtain ⟨rfl, rfl⟩ := name_only ot1 eM
                    have hq4 := sqt_same s4 hq
                    have hvl := DpAll.len hv
                    have hvl2 : vs.length = r.length := by
                      rw [hvl]
                      show (Tr.encL r).length = r.length
                      exact encL_len r
                    refine iteT ⟨_, rfl, a, _, _, _, rfl, rfl, sqt_same s4 hs3, atI_nat (j := 2) rfl, q, vs, rfl, .inr hq4, rfl, _, rfl, ?_⟩
                    show if decide (V.int (vs.length : Nat) = V.int 1) = true then _ else _
                    rw [dec_int, hvl2]
                    by_cases q1 : r.length = 1
                    · have e1 : (((r.length : Nat) : Int) == 1) = true := by rw [q1]; rfl
                      rw [e1]
                      obtain ⟨b, rfl⟩ := one_of q1
                      obtain ⟨rr, w1, w2⟩ := raw_call (x := x) (y := x) (b := b) rfl
                      have ha4 : DpAll K H3 acc (useD ([0], "read") :: rr.map useD) := by
                        have z : DpAll K H3 acc (([] ++ rawL x .call 2 0 [.mk (.name x) [], b]).map useD) := ha3
                        rw [w1] at z
                        exact z
                      obtain ⟨v0, acc', rfl⟩ : ∃ v0 acc', acc = v0 :: acc' := by
                        cases ha4 with
                        | cons z1 z2 => exact ⟨_, _, rfl⟩
                      have hacc' : DpAll K H3 acc' (rr.map useD) := by
                        cases ha4 with
                        | cons z1 z2 => exact z2
                      refine iteT ⟨by show 1 ≤ sizeLine; decide, fun p2 hp2 => ⟨by show 2 ≤ sizeLine; decide, fun p3 hp3 => ?_⟩⟩
                      have s5 := same_new (o := .tup [.int 0]) hp2
                      have s6 := same_new (o := .tup [.ref p2, .str "called"]) hp3
                      have s46 := s4.trans (s5.trans s6)
                      have hF6 := s46 _ _ hF3
                      refine ⟨_, rfl, F, _, 0, 0, rfl, rfl, hF6, by unfold ixN; simp, ?_⟩
                      refine ⟨.ref p3 :: acc', rfl, same_put (s3.trans s46) nF, upd_same, ?_⟩
                      have e2 : (Tr.mk .call [.mk (.name x) [], b]).uses x = ([0], ("called" : Str)) :: rr := by
                        show [] ++ Tr.usesL x .call 2 0 [.mk (.name x) [], b] = _
                        rw [w2]; rfl
                      rw [e2]
                      refine .cons (dp_useD (p := ([0], "called")) (b := p2) (.inl (.inl ?_)) (.inl (.inl ?_))) (dps_keep (fun _ _ q => sqt_put hF6 q) _ _ (flat_usesD _) (dps_same s46 _ _ hacc'))
                      · rw [upd_ne (ne_of upd_same hF6 (by intro z; cases z))]
                        exact upd_same
                      · have z1 : (upd (upd (upd H3 p1 (.tup [.str "name", .str x])) p2 (.tup [.int 0])) p3 (.tup [.ref p2, .str "called"])) p2 = some (.tup [.int 0]) := s6 _ _ upd_same
                        rw [upd_ne (ne_of z1 hF6 (by intro z; cases z))]
                        exact z1
                    · have e1 : (((r.length : Nat) : Int) == 1) = false := by
                        by_cases z : (((r.length : Nat) : Int) == 1) = true
                        · exact absurd (by have := eq_of_beq z; omega) q1
                        · exact Bool.eq_false_iff.mpr z
                      rw [e1]
                      refine iteF ⟨acc, rfl, s3.trans s4, s4 _ _ hF3, dps_same s4 _ _ (plain (raw_eq fun j t e c => ?_))⟩
                      have c' : (isCall .call && decide ((Tr.mk (.name x) [] :: r).length = 2) && decide (0 + j = 0) && isName t.hd) = true := c
                      simp only [Bool.and_eq_true, decide_eq_true_eq, List.length_cons] at c'
                      omega
                | _ => cases eC
            · rintro σ' H4 ⟨acc, rfl, s4, hF4, ha4⟩
              refine ⟨_, rfl, .inl ⟨F, _, rfl, .inl (.inl hF4), fun t ht => ?_⟩⟩
              exact k t acc _ (s4.trans (same_new ht)) (.inl (.inl upd_same)) (dps_same (same_new ht) _ _ ha4)
end
end K13

namespace K13
open PySem L2 Cm
/-- the parts of a form with the names that it binds over them -/
def pairD (p : PyData × PyData) : PyData := .tuple [p.1, p.2]
def pairs (h : Hd) (ds : List PyData) : List PyData := (ds.zip (bnds h ds.length)).map pairD
theorem zip_rep {α β : Type} (b : β) : ∀ l : List α, l.zip (List.replicate l.length b) = l.map fun a => (a, b)
  | [] => rfl
  | a :: l => by
    show (a, b) :: l.zip (List.replicate l.length b) = _
    rw [zip_rep b l]
    rfl
theorem pairs_no {h : Hd} (e : isLet h = false) (ds : List PyData) : pairs h ds = ds.map fun d => pairD (d, encs (held h)) := by
  unfold pairs
  rw [bnds_no e, zip_rep, List.map_map]
  rfl
theorem pairs_let {h : Hd} (e : isLet h = true) (ds : List PyData) (dl : PyData) : pairs h (ds ++ [dl]) = (ds.map fun d => pairD (d, encs [])) ++ [pairD (dl, encs (held h))] := by
  unfold pairs
  rw [List.length_append, List.length_singleton, bnds_let e, List.zip_append (by rw [List.length_replicate]), zip_rep, List.map_append, List.map_map]
  rfl
theorem flat_pairs (h : Hd) {ds : List PyData} (f : flatDs ds = true) : flatDs (pairs h ds) = true := flatDs_of _ fun d hd => by
  obtain ⟨p, hp, rfl⟩ := List.mem_map.mp hd
  have h1 := List.of_mem_zip (show (p.1, p.2) ∈ ds.zip (bnds h ds.length) from hp)
  have h2 := flatDs_all f _ h1.1
  have h3 := flatDs_all (flat_bnds h ds.length) _ h1.2
  simp [pairD, flatD, flatDs, h2, h3]
def spPairs (K : PySem.W.Frag) : Sp := fun vs H Q _ => ∃ (v : V) (h : Hd) (ds : List PyData), vs = [v] ∧ Dp K H v (encH h ds) ∧ hok h ds.length ∧ flatDs ds = true ∧ ds.length ≤ 100 ∧
  ∀ (l : Addr) (us : List V) (H' : Hp), Same H H' → H l = none → H' l = some (.lst us) → DpAll K H' us (pairs h ds) → Q (.ref l) H'
section
variable {P : Program} {w : World} {K : PySem.W.Frag} {mg : Str → Option Value} {base : Heap}
theorem dp_pair {H : Hp} {t : Addr} {u q : V} {d : PyData} {xs : List Str} (h : SqT K H t [u, q]) (hu : Dp K H u d) (hq : Dp K H q (encs xs)) : Dp K H (.ref t) (pairD (d, encs xs)) := .tup h (.cons hu (.cons hq .nil))
abbrev s_l_parts : Stmt := top 11
abbrev N_l_parts : List Str := ["_law_tree", "_law_word", "_law_names", "_law_pair", "_law_there", "_law_part"]
theorem sc_l_parts : FnScope N_l_parts ["_law_tree"] (defScope s_l_parts) := ⟨rfl, rfl, rfl, by decide +kernel, rfl, by decide +kernel, by decide +kernel⟩
/-- the list of the parts, each with () -/
theorem lc_unit {q : Addr} {xs : List V} {ds : List PyData} {σ : L2.St} {H1 : Hp} {D : Addr} {Qd : Hp → Prop} (hσ : σ.length = 6)
    (hq : SqT K H1 q xs) (hd : DpAll K H1 xs ds) (fl : flatDs ds = true) (hl : ds.length ≤ 100) (hD : H1 D = none)
    (hd' : ∀ H acc, Same H1 H → H D = some (.lst acc) → DpAll K H acc (ds.map fun d => pairD (d, encs [])) → Qd H) :
    ∃ W : Nat → Nat → Hp → Prop, (∃ m, W 0 m (upd H1 D (.lst []))) ∧ ∀ i m H, W i m H →
      ((Itt K q).stop i H ∧ Qd H) ∨ ((Itt K q).go i H ∧ ∃ Nx : Hp → Prop, (∀ H', Nx H' → ∃ m', m' < m ∧ W (i + 1) m' H') ∧ ∀ x H', (Itt K q).yld i H x H' → gName 5 x (wipe σ [5]) H' fun σ2 H2 => wipe σ2 [5] = wipe σ [5] ∧ tYes σ2 H2 fun b H3 =>
        if b = true then tTup (tCons (tVar 5) (tCons (tTup tNil) tNil)) σ2 H3 fun y H4 => ∃ acc, H4 D = some (.lst acc) ∧ acc.length < sizeLine ∧ Nx (upd H4 D (.lst (acc ++ [y]))) else Nx H3) := by
  have e0 := DpAll.len hd
  refine lc_data (K := K) (walk_tup (xs := xs)) (fun i => (ds[i]?).map fun d => pairD (d, encs [])) hD (by omega) (fun H' s => sqt_same s hq) (fun i _ d e => ?_) ?_ ?_
  · obtain ⟨d', e', rfl⟩ := Option.map_eq_some_iff.mp e
    have := flatDs_all fl _ (List.mem_of_getElem? e')
    simp [pairD, flatD, flatDs, encs, this]
  · rintro i x H3 H4 hi s3 ⟨rfl, e2⟩ Q1 Q0 q1 q0
    obtain ⟨d, g1, g2⟩ := DpAll.atV hd e2
    show wipe ((σ.set 5 none).set 5 (some x)) [5] = wipe σ [5] ∧ _
    refine ⟨by simp [wipe], ?_⟩
    refine iteT (B := Q0 H4) ⟨x, by simp [wipe, hσ], by show 0 ≤ sizeLine; decide, fun p hp => ⟨by show 2 ≤ sizeLine; decide, fun t ht => ?_⟩⟩
    have s4 := same_new (o := .tup []) hp
    have s5 := same_new (o := .tup [x, .ref p]) ht
    refine q1 _ _ (pairD (d, encs [])) (by rw [g1]; rfl) (s4.trans s5) (dp_pair (.inl (.inl upd_same)) (dp_same (s3.trans (s4.trans s5)) _ _ g2) (.tup (.inl (.inl (s5 _ _ upd_same))) .nil))
  · intro H3 acc s3 hacc ha3
    rw [e0, range_map] at ha3
    exact hd' _ _ s3 hacc ha3
theorem ok_l_parts (T : Txt mg) (D : At K mg "_law_parts" s_l_parts ["_law_tree"]) : Cl P w K mg base 1 "_law_parts" (spPairs K) := by
  refine cl_of D sc_l_parts (fun vs H Q E h => ?_) fun f cdv A outer s H vs Q E hr h => ?_
  · obtain ⟨v, h, ds, rfl, _⟩ := h
    rfl
  · obtain ⟨v, h, ds, rfl, hd, o, fl, hlen, k⟩ := h
    obtain ⟨a, its, rfl, hs, hx⟩ := view hd
    refine ⟨_, (pss_cons (ps_set (i := 1) sc_l_parts.nd rfl (Or.inl rfl) (pe_ix ix_tup (pv 0) pe_int (fun _ _ => rfl)))
      (pss_cons (ps_if (pt_inW (pv 1) (.cons (.cons (.cons (.cons (.cons (.cons .nil)))))) (show 6 ≤ sizeLine by decide) (by rfl))
        (pss_one (ps_ret (pe_lst pa_nil)))
        pss_nil)
      (pss_cons (ps_if (pt_cmpR op_eq (pv 1) pe_str (nomark _))
        (pss_one (ps_ret (pe_lst (pa_cons (pe_tup (pa_cons (pe_ix ix_tup (pv 0) pe_int (fun _ _ => rfl)) (pa_cons (pe_ix ix_tup (pv 0) pe_int (fun _ _ => rfl)) pa_nil))) pa_nil))))
        pss_nil)
      (pss_cons (ps_if (pt_inW (pv 1) (.cons (.cons .nil)) (show 2 ≤ sizeLine by decide) (by rfl))
        (pss_cons (ps_set (i := 2) sc_l_parts.nd rfl (Or.inl rfl) (pe_tupleOf (by rfl) T.tuple (pe_lc (own := [("_law_pair", 3)]) rfl sc_l_parts.nd (pi_tup (pe_ix ix_tup (pv 0) pe_int (fun _ _ => rfl))) (blkOk_by (N := N_l_parts) (sc := defScope s_l_parts) (by decide +kernel))
      (fun _ _ _ _ _ => (pg_name (i := 3) sc_l_parts.nd rfl (Or.inl rfl)))
      (fun _ _ _ _ _ => pts_nil)
      (fun _ _ _ _ _ => (pe_ix (kx_tup (K := K)) (pv 3) pe_int (fun _ _ => rfl))))))
        (pss_mid (ps_set (i := 4) sc_l_parts.nd rfl (Or.inr rfl) (pe_ifExp (pt_cmpR op_eq (pv 1) pe_str (nomark _)) (pv 2) (pe_tup pa_nil)))
        (pss_one (ps_ret (pe_op op_cat (pe_lc (own := [("_law_pair", 3)]) rfl sc_l_parts.nd (pi_tup (pe_ix ix_tup (pv 0) pe_int (fun _ _ => rfl))) (blkOk_by (N := N_l_parts) (sc := defScope s_l_parts) (by decide +kernel))
      (fun _ _ _ _ _ => (pg_name (i := 3) sc_l_parts.nd rfl (Or.inl rfl)))
      (fun _ _ _ _ _ => pts_nil)
      (fun _ _ _ _ _ => (pe_tup (pa_cons (pe_ix (kx_tup (K := K)) (pv 3) pe_int (fun _ _ => rfl)) (pa_cons (pv 4) pa_nil))))) (pe_lst (pa_cons (pe_tup (pa_cons (pe_ix ix_tup (pv 0) pe_int (fun _ _ => rfl)) (pa_cons (pv 2) pa_nil))) pa_nil)))))))
        pss_nil)
      (pss_cons (ps_if (pt_inW (pv 1) (.cons (.cons (.cons .nil))) (show 3 ≤ sizeLine by decide) (by rfl))
        (pss_one (ps_ret (pe_lst (pa_cons (pe_tup (pa_cons (pe_ix ix_tup (pv 0) pe_int (fun _ _ => rfl)) (pa_cons (pe_tup (pa_cons (pe_ix ix_tup (pv 0) pe_int (fun _ _ => rfl)) pa_nil)) pa_nil))) pa_nil))))
        pss_nil)
      (pss_cons (ps_if (pt_cmpR op_eq (pv 1) pe_str (nomark _))
        (pss_one (ps_ret (pe_lst (pa_cons (pe_tup (pa_cons (pe_ix ix_tup (pv 0) pe_int (fun _ _ => rfl)) (pa_cons (pe_tup pa_nil) pa_nil))) pa_nil))))
        pss_nil)
      (pss_cons (ps_if (pt_cmpR op_eq (pv 1) pe_str (nomark _))
        (pss_one (ps_ret (pe_op op_cat (pe_lst (pa_cons (pe_tup (pa_cons (pe_ix ix_tup (pv 0) pe_int (fun _ _ => rfl)) (pa_cons (pe_tup pa_nil) pa_nil))) pa_nil)) (pe_lc (own := [("_law_part", 5)]) rfl sc_l_parts.nd (pi_tup (pe_ix ix_tup (pv 0) pe_int (fun _ _ => rfl))) (blkOk_by (N := N_l_parts) (sc := defScope s_l_parts) (by decide +kernel))
      (fun _ _ _ _ _ => (pg_name (i := 5) sc_l_parts.nd rfl (Or.inl rfl)))
      (fun _ _ _ _ _ => pts_nil)
      (fun _ _ _ _ _ => (pe_tup (pa_cons (pv 5) (pa_cons (pe_tup pa_nil) pa_nil))))))))
        pss_nil)
      (pss_cons (ps_if (pt_cmpR op_eq (pv 1) pe_str (nomark _))
        (pss_one (ps_ret (pe_lc (own := [("_law_part", 5)]) rfl sc_l_parts.nd (pi_tup (pe_ix ix_tup (pv 0) pe_int (fun _ _ => rfl))) (blkOk_by (N := N_l_parts) (sc := defScope s_l_parts) (by decide +kernel))
      (fun _ _ _ _ _ => (pg_name (i := 5) sc_l_parts.nd rfl (Or.inl rfl)))
      (fun _ _ _ _ _ => pts_nil)
      (fun _ _ _ _ _ => (pe_tup (pa_cons (pv 5) (pa_cons (pe_tup pa_nil) pa_nil)))))))
        pss_nil)
      (pss_cons (ps_if (pt_cmpR op_eq (pv 1) pe_str (nomark _))
        (pss_one (ps_ret (pe_lc (own := [("_law_part", 5)]) rfl sc_l_parts.nd (pi_tup (pe_ix ix_tup (pv 0) pe_int (fun _ _ => rfl))) (blkOk_by (N := N_l_parts) (sc := defScope s_l_parts) (by decide +kernel))
      (fun _ _ _ _ _ => (pg_name (i := 5) sc_l_parts.nd rfl (Or.inl rfl)))
      (fun _ _ _ _ _ => pts_nil)
      (fun _ _ _ _ _ => (pe_tup (pa_cons (pv 5) (pa_cons (pe_tup pa_nil) pa_nil)))))))
        pss_nil)
      (pss_one (ps_ret (pe_lc (own := [("_law_part", 5)]) rfl sc_l_parts.nd (pi_tup (pe_slice sl_tupA (pv 0) (po_some pe_int) po_none)) (blkOk_by (N := N_l_parts) (sc := defScope s_l_parts) (by decide +kernel))
      (fun _ _ _ _ _ => (pg_name (i := 5) sc_l_parts.nd rfl (Or.inl rfl)))
      (fun _ _ _ _ _ => pts_nil)
      (fun _ _ _ _ _ => (pe_tup (pa_cons (pv 5) (pa_cons (pe_tup pa_nil) pa_nil)))))))))))))))), ?_⟩
    have hhd := hx.head
    refine ⟨_, rfl, a, its, _, _, rfl, rfl, hs, hhd, ?_⟩
    refine ⟨_, rfl, rfl, fun H0 s0 => ?_⟩
    rw [in_L o]
    cases eL : kL h with
    | true =>
      refine iteT ⟨by show 0 ≤ sizeLine; decide, fun l hl => ?_⟩
      have e0 : ds = [] := by
        cases h with
        | num i => exact List.length_eq_zero_iff.mp o
        | name i => exact List.length_eq_zero_iff.mp o.1
        | lit i => exact List.length_eq_zero_iff.mp o.1
        | _ => cases eL
      subst e0
      exact k l [] _ (s0.trans (same_new hl)) (free_of s0 hl) upd_same .nil
    | false =>
    refine iteF ?_
    have hs1 := sqt_same s0 hs
    have hx1 := hx.same s0
    refine ⟨_, rfl, rfl, _, rfl, ?_⟩
    rw [eq_fn o]
    cases eF : isFn h with
    | true =>
      cases h with
      | fn xs =>
        obtain ⟨d, rfl⟩ := one_of o.1
        obtain ⟨q, vs, rfl, hq, hv⟩ := hx1
        obtain ⟨v2, rfl, hv2⟩ := dpAll_one hv
        refine iteT ⟨_, rfl, a, _, _, _, rfl, rfl, hs1, atI_nat (j := 2) rfl, _, rfl, a, _, _, _, rfl, rfl, hs1, atI_nat (j := 1) rfl, by show 2 ≤ sizeLine; decide, fun t ht => ⟨by show 1 ≤ sizeLine; decide, fun l hl => ?_⟩⟩
        have s2 := same_new (o := .tup [v2, .ref q]) ht
        have s3 := same_new (o := .lst [.ref t]) hl
        refine k l _ _ (s0.trans (s2.trans s3)) (free_of (s0.trans s2) hl) upd_same ?_
        rw [pairs_no rfl]
        exact .cons (dp_pair (.inl (.inl (s3 _ _ upd_same))) (dp_same (s2.trans s3) _ _ hv2) (.tup (sqt_same (s2.trans s3) hq) (dpAll_strs xs))) .nil
      | _ => cases eF
    | false =>
    refine iteF ?_
    refine ⟨_, rfl, rfl, fun H2 s2 => ?_⟩
    have S2 := s0.trans s2
    have hs2 := sqt_same s2 hs1
    have hx2 := hx1.same s2
    rw [in_B o]
    cases eB : kB h with
    | true =>
      refine iteT ?_
      cases h with
      | bind w xs =>
        obtain ⟨q, rows, vs, rfl, hq, hrows, hv⟩ := hx2
        have hdl : ds.length = xs.length + 1 := o.1
        have hrl : rows.length = xs.length := by
          have := DpAll.len hrows
          rw [List.length_map, List.length_zip] at this
          omega
        refine ⟨_, rfl, a, _, _, _, rfl, rfl, hs2, atI_nat (j := 1) rfl, q, rfl, ⟨_, hq⟩, fun L hL => ?_⟩
        refine lc_data (K := K) (walk_tup (xs := rows)) (fun i => (xs[i]?).map PyData.str) hL (by omega) (fun H' s => sqt_same s hq) (fun i _ d e => ?_) ?_ ?_
        · obtain ⟨d', e', rfl⟩ := Option.map_eq_some_iff.mp e
          rfl
        · rintro i x H3 H4 hi s3 ⟨rfl, e2⟩ Q1 Q0 q1 q0
          obtain ⟨d, g1, g2⟩ := DpAll.atV hrows e2
          obtain ⟨p, ep, rfl⟩ := map_at g1
          obtain ⟨r, its3, rfl, hr3, hi3⟩ := dp_tup (dp_same s3 _ _ g2)
          cases hi3 with
          | cons h1 h2 =>
            refine ⟨rfl, _, rfl, r, _, _, _, rfl, rfl, hr3, atI_nat (j := 0) rfl, q1 _ _ (.str p.1) ?_ (Same.refl _) h1⟩
            rw [(List.getElem?_zip_eq_some.mp ep).1]
            rfl
        · intro H3 acc s3 hacc ha3
          rw [show rows.length = xs.length by omega, range_map] at ha3
          have ea := dpAll_strs_inv ha3
          subst ea
          refine .inl ⟨L, _, rfl, .inl (.inl hacc), fun tn htn => ?_⟩
          have s4 := same_new (o := .tup (xs.map V.str)) htn
          have S4 := s3.trans s4
          have hn4 : SqT K (upd H3 tn (.tup (xs.map V.str))) tn (xs.map V.str) := .inl (.inl upd_same)
          generalize upd H3 tn (.tup (xs.map V.str)) = H4 at *
          refine ⟨fun σ' H' => ∃ tq : Addr, σ' = [some (.ref a), some (.str w), some (.ref tn), none, some (.ref tq), none] ∧ Same H4 H' ∧ Dp K H' (.ref tq) (encs (if isLet (.bind w xs) = true then [] else xs)), ?_, ?_⟩
          · refine ⟨_, rfl, rfl, _, rfl, ?_⟩
            have ew := o.2.1
            have e3 : decide (V.str (wd (.bind w xs)) = V.str "rec") = !isLet (.bind w xs) := by
              rw [decS]
              show decide (w = "rec") = !decide (w = "let")
              have key : ∀ w ∈ bindW, decide (w = ("rec" : Str)) = !decide (w = ("let" : Str)) := by decide +kernel
              exact key w ew
            rw [e3]
            cases eL2 : isLet (.bind w xs) with
            | true => exact iteF ⟨by show 0 ≤ sizeLine; decide, fun tq htq => ⟨tq, rfl, same_new htq, .tup (.inl (.inl upd_same)) .nil⟩⟩
            | false => exact iteT ⟨_, rfl, tn, rfl, Same.refl _, .tup hn4 (dpAll_strs xs)⟩
          · rintro σ' H5 ⟨tq, rfl, s5, htq⟩
            have S5 := S4.trans s5
            refine ⟨_, rfl, a, _, _, _, rfl, rfl, sqt_same S5 hs2, atI_nat (j := 1) rfl, q, rfl, ⟨_, sqt_same S5 hq⟩, fun L5 hL5 => ?_⟩
            have hrows5 := dps_same S5 _ _ hrows
            have ftq : flatD (encs (if isLet (.bind w xs) = true then [] else xs)) = true := flat_strs _
            refine lc_data (K := K) (walk_tup (xs := rows)) (fun i => ((ds.take xs.length)[i]?).map fun d => pairD (d, encs (if isLet (.bind w xs) = true then [] else xs))) hL5 (by omega) (fun H' s => sqt_same (S5.trans s) hq) (fun i _ d e => ?_) ?_ ?_
            · obtain ⟨d', e', rfl⟩ := Option.map_eq_some_iff.mp e
              have := flatDs_all fl _ (List.mem_of_mem_take (List.mem_of_getElem? e'))
              simp [pairD, flatD, flatDs, this, ftq]
            · rintro i x H6 H7 hi s6 ⟨rfl, e2⟩ Q1 Q0 q1 q0
              obtain ⟨d, g1, g2⟩ := DpAll.atV hrows5 e2
              obtain ⟨p, ep, rfl⟩ := map_at g1
              obtain ⟨r, its3, rfl, hr3, hi3⟩ := dp_tup (dp_same s6 _ _ g2)
              cases hi3 with
              | cons h1 h2 =>
                obtain ⟨v, rfl, h3⟩ := dpAll_one h2
                refine ⟨rfl, _, rfl, r, _, _, _, rfl, rfl, hr3, atI_nat (j := 1) rfl, _, rfl, by show 2 ≤ sizeLine; decide, fun t ht => ?_⟩
                have s7 := same_new (o := .tup [v, .ref tq]) ht
                refine q1 _ _ (pairD (p.2, encs (if isLet (.bind w xs) = true then [] else xs))) ?_ s7 (dp_pair (.inl (.inl upd_same)) (dp_same s7 _ _ h3) (dp_same (s6.trans s7) _ _ htq))
                have := List.getElem?_zip_eq_some.mp ep
                rw [List.getElem?_take_of_lt (by omega), this.2]
                rfl
            · intro H6 acc s6 hacc6 ha6
              rw [show rows.length = (ds.take xs.length).length by rw [List.length_take]; omega, range_map] at ha6
              obtain ⟨dl, edl⟩ := one_of (show (ds.drop xs.length).length = 1 by rw [List.length_drop]; omega)
              have hv' : DpAll K H2 vs (ds.drop xs.length) := hv
              rw [edl] at hv'
              obtain ⟨vl, rfl, hvl⟩ := dpAll_one hv'
              have S6 := S5.trans s6
              refine ⟨_, rfl, a, _, _, _, rfl, rfl, sqt_same S6 hs2, atI_nat (j := 2) rfl, _, rfl, by show 2 ≤ sizeLine; decide, fun t7 ht7 => ⟨by show 1 ≤ sizeLine; decide, fun l7 hl7 => ?_⟩⟩
              have s7 := same_new (o := .tup [vl, .ref tn]) ht7
              have s8 := same_new (o := .lst [.ref t7]) hl7
              have s78 := s7.trans s8
              have hl3 := DpAll.len ha6
              rw [List.length_map, List.length_take] at hl3
              refine ⟨L5, l7, acc, [.ref t7], rfl, rfl, s78 _ _ hacc6, upd_same, Nat.le_trans (show acc.length + 1 ≤ 200 by omega) (by decide), fun t9 ht9 => ?_⟩
              have s9 := same_new (o := .lst (acc ++ [.ref t7])) ht9
              have s79 := s78.trans s9
              have S9 := S6.trans s79
              refine k t9 _ _ (S2.trans S9) (free_of (S2.trans (S6.trans s78)) ht9) upd_same ?_
              have h7 : DpAll K (upd (upd (upd H6 t7 (.tup [vl, .ref tn])) l7 (.lst [.ref t7])) t9 (.lst (acc ++ [.ref t7]))) (acc ++ [.ref t7]) ((ds.take xs.length).map (fun d => pairD (d, encs (if isLet (.bind w xs) = true then [] else xs))) ++ [pairD (dl, encs xs)]) :=
                DpAll.app (dps_same s79 _ _ ha6) (.cons (dp_pair (.inl (.inl (s9 _ _ (s8 _ _ upd_same)))) (dp_same (S6.trans s79) _ _ hvl) (.tup (sqt_same ((s5.trans s6).trans s79) hn4) (dpAll_strs xs))) .nil)
              have ed : ds = ds.take xs.length ++ [dl] := by rw [← edl, List.take_append_drop]
              have ep : pairs (.bind w xs) ds = (ds.take xs.length).map (fun d => pairD (d, encs (if isLet (.bind w xs) = true then [] else xs))) ++ [pairD (dl, encs xs)] := by
                cases eL2 : isLet (.bind w xs) with
                | true =>
                  rw [if_pos rfl]
                  have := pairs_let eL2 (ds.take xs.length) dl
                  rw [← ed] at this
                  exact this
                | false =>
                  rw [if_neg Bool.false_ne_true, pairs_no eL2]
                  conv => lhs; rw [ed]
                  rw [List.map_append]
                  rfl
              rw [ep]
              exact h7
      | _ => cases eB
    | false =>
    refine iteF ?_
    refine ⟨_, rfl, rfl, fun H3 s3 => ?_⟩
    have S3 := S2.trans s3
    have hs3 := sqt_same s3 hs2
    have hx3 := hx2.same s3
    rw [in_T o]
    cases eT : isTak h with
    | true =>
      refine iteT ?_
      cases h with
      | one w x =>
        obtain ⟨d, rfl⟩ := one_of o.1
        obtain ⟨vs, rfl, hv⟩ := hx3
        obtain ⟨v2, rfl, hv2⟩ := dpAll_one hv
        refine ⟨_, rfl, a, _, _, _, rfl, rfl, hs3, atI_nat (j := 2) rfl, _, rfl, a, _, _, _, rfl, rfl, hs3, atI_nat (j := 1) rfl, by show 1 ≤ sizeLine; decide, fun p hp => ⟨by show 2 ≤ sizeLine; decide, fun t ht => ⟨by show 1 ≤ sizeLine; decide, fun l hl => ?_⟩⟩⟩
        have s4 := same_new (o := .tup [.str x]) hp
        have s5 := same_new (o := .tup [v2, .ref p]) ht
        have s6 := same_new (o := .lst [.ref t]) hl
        have s46 := s4.trans (s5.trans s6)
        refine k l _ _ (S3.trans s46) (free_of (S3.trans (s4.trans s5)) hl) upd_same ?_
        have e2 : held (.one w x) = [x] := by
          have : (!decide (w = "set")) = true := eT
          show (if w = "set" then [] else [x] : List Str) = [x]
          rw [if_neg (fun z => by rw [decide_eq_true z] at this; cases this)]
        rw [pairs_no rfl, e2]
        refine .cons (dp_pair (.inl (.inl (s6 _ _ upd_same))) (dp_same s46 _ _ hv2) (.tup (xs := [x].map V.str) ?_ (dpAll_strs [x]))) .nil
        exact .inl (.inl (s6 _ _ (s5 _ _ upd_same)))
      | _ => cases eT
    | false =>
    have eh : held h = [] := by
      cases h with
      | fn xs => cases eF
      | bind w xs => cases eB
      | one w x =>
        have : (!decide (w = "set")) = false := eT
        show (if w = "set" then [] else [x] : List Str) = []
        rw [if_pos (by
          by_cases z : w = "set"
          · exact z
          · rw [decide_eq_false z] at this
            cases this)]
      | _ => rfl
    have el : isLet h = false := by
      cases h with
      | bind w xs => cases eB
      | _ => rfl
    have ep : pairs h ds = ds.map fun d => pairD (d, encs []) := by rw [pairs_no el, eh]
    rw [ep] at k
    refine iteF ?_
    refine ⟨_, rfl, rfl, _, rfl, ?_⟩
    rw [eq_set o]
    cases eS : (kd h == 3 && !isTak h) with
    | true =>
      refine iteT ?_
      cases h with
      | one w x =>
        obtain ⟨d, rfl⟩ := one_of o.1
        obtain ⟨vs, rfl, hv⟩ := hx3
        obtain ⟨v2, rfl, hv2⟩ := dpAll_one hv
        refine ⟨_, rfl, a, _, _, _, rfl, rfl, hs3, atI_nat (j := 2) rfl, by show 0 ≤ sizeLine; decide, fun p hp => ⟨by show 2 ≤ sizeLine; decide, fun t ht => ⟨by show 1 ≤ sizeLine; decide, fun l hl => ?_⟩⟩⟩
        have s4 := same_new (o := .tup []) hp
        have s5 := same_new (o := .tup [v2, .ref p]) ht
        have s6 := same_new (o := .lst [.ref t]) hl
        have s46 := s4.trans (s5.trans s6)
        refine k l _ _ (S3.trans s46) (free_of (S3.trans (s4.trans s5)) hl) upd_same ?_
        refine .cons (dp_pair (.inl (.inl (s6 _ _ upd_same))) (dp_same s46 _ _ hv2) (.tup ?_ .nil)) .nil
        exact .inl (.inl (s6 _ _ (s5 _ _ upd_same)))
      | _ => cases eS
    | false =>
    refine iteF ?_
    refine ⟨_, rfl, rfl, _, rfl, ?_⟩
    rw [eq_call o]
    cases eC : isCall h with
    | true =>
      refine iteT ?_
      cases h with
      | call =>
        obtain ⟨q, us, vs, rfl, hu, hq, hv⟩ := hx3
        have hdl : 1 ≤ ds.length := o
        cases ds with
        | nil => exact absurd hdl (by decide)
        | cons d0 dr =>
        have hu' : DpAll K H3 us [d0] := hu
        obtain ⟨u0, rfl, hu0⟩ := dpAll_one hu'
        have hv' : DpAll K H3 vs dr := hv
        have fr : flatDs dr = true := flatDs_of _ fun d m => flatDs_all fl d (List.mem_cons_of_mem _ m)
        have hrl : dr.length ≤ 100 := by rw [List.length_cons] at hlen; omega
        refine ⟨_, rfl, a, _, _, _, rfl, rfl, hs3, atI_nat (j := 1) rfl, by show 0 ≤ sizeLine; decide, fun p hp => ⟨by show 2 ≤ sizeLine; decide, fun t ht => ⟨by show 1 ≤ sizeLine; decide, fun l0 hl0 => ?_⟩⟩⟩
        have s4 := same_new (o := .tup []) hp
        have s5 := same_new (o := .tup [u0, .ref p]) ht
        have s6 := same_new (o := .lst [.ref t]) hl0
        have s46 := s4.trans (s5.trans s6)
        have hl6 : (upd (upd (upd H3 p (.tup [])) t (.tup [u0, .ref p])) l0 (.lst [.ref t])) l0 = some (.lst [.ref t]) := upd_same
        have hp6 : Dp K (upd (upd (upd H3 p (.tup [])) t (.tup [u0, .ref p])) l0 (.lst [.ref t])) (.ref t) (pairD (d0, encs [])) := dp_pair (.inl (.inl (s6 _ _ upd_same))) (dp_same s46 _ _ hu0) (.tup (.inl (.inl (s6 _ _ (s5 _ _ upd_same)))) .nil)
        generalize upd (upd (upd H3 p (.tup [])) t (.tup [u0, .ref p])) l0 (.lst [.ref t]) = H6 at *
        refine ⟨_, rfl, a, _, _, _, rfl, rfl, sqt_same s46 hs3, atI_nat (j := 2) rfl, q, rfl, ⟨_, sqt_same s46 hq⟩, fun L hL => ?_⟩
        refine lc_unit rfl (sqt_same s46 hq) (dps_same s46 _ _ hv') fr hrl hL fun H7 acc s7 hacc ha7 => ?_
        have hl3 := DpAll.len ha7
        rw [List.length_map] at hl3
        refine ⟨l0, L, [.ref t], acc, rfl, rfl, s7 _ _ hl6, hacc, Nat.le_trans (show 1 + acc.length ≤ 200 by omega) (by decide), fun t8 ht8 => ?_⟩
        have s8 := same_new (o := .lst ([.ref t] ++ acc)) ht8
        refine k t8 _ _ (S3.trans (s46.trans (s7.trans s8))) (free_of (S3.trans (s46.trans s7)) ht8) upd_same ?_
        exact .cons (dp_same (s7.trans s8) _ _ hp6) (dps_same s8 _ _ ha7)
      | _ => cases eC
    | false =>
    refine iteF ?_
    refine ⟨_, rfl, rfl, _, rfl, ?_⟩
    rw [eq_do o]
    cases eD : isDo h with
    | true =>
      refine iteT ?_
      cases h with
      | doo =>
        obtain ⟨q, vs, rfl, hq, hv⟩ := hx3
        refine ⟨_, rfl, a, _, _, _, rfl, rfl, hs3, atI_nat (j := 1) rfl, q, rfl, ⟨_, hq⟩, fun L hL => ?_⟩
        exact lc_unit rfl hq hv fl hlen hL fun H7 acc s7 hacc ha7 => k L acc _ (S3.trans s7) (free_of S3 hL) hacc ha7
      | _ => cases eD
    | false =>
    refine iteF ?_
    refine ⟨_, rfl, rfl, _, rfl, ?_⟩
    rw [eq_op o]
    cases eO : isOp h with
    | true =>
      refine iteT ?_
      cases h with
      | op o' =>
        obtain ⟨q, vs, rfl, hq, hv⟩ := hx3
        refine ⟨_, rfl, a, _, _, _, rfl, rfl, hs3, atI_nat (j := 2) rfl, q, rfl, ⟨_, hq⟩, fun L hL => ?_⟩
        exact lc_unit rfl hq hv fl hlen hL fun H7 acc s7 hacc ha7 => k L acc _ (S3.trans s7) (free_of S3 hL) hacc ha7
      | _ => cases eO
    | false =>
    refine iteF ?_
    cases h with
    | plain w =>
      obtain ⟨vs, rfl, hv⟩ := hx3
      refine ⟨_, rfl, 1, rfl, ?_⟩
      refine sl_from (k := 1) hs3 (by rw [List.length_cons]; omega) fun t4 H4 s4 ht4 => ?_
      refine ⟨t4, rfl, ⟨_, ht4⟩, fun L hL => ?_⟩
      exact lc_unit rfl ht4 (dps_same s4 _ _ hv) fl hlen hL fun H7 acc s7 hacc ha7 => k L acc _ ((S3.trans s4).trans s7) (free_of (S3.trans s4) hL) hacc ha7
    | num i => cases eL
    | name i => cases eL
    | lit i => cases eL
    | one w x =>
      have z : (true && !isTak (.one w x)) = false := eS
      rw [eT] at z
      cases z
    | fn _ => cases eF
    | bind _ _ => cases eB
    | doo => cases eD
    | call => cases eC
    | op _ => cases eO
end
end K13

namespace K13
open PySem L2 Cm
/-- a form with other parts -/
def spRemade (K : PySem.W.Frag) : Sp := fun vs H Q _ => ∃ (v : V) (b : Addr) (h : Hd) (ds0 ds : List PyData) (us : List V), vs = [v, .ref b] ∧ Dp K H v (encH h ds0) ∧ hok h ds0.length ∧ ds.length = ds0.length ∧ ds.length ≤ 100 ∧ flatDs ds = true ∧
  SqL K H b us ∧ DpAll K H us ds ∧ ∀ (r : V) (H' : Hp), Same H H' → Dp K H' r (encH h ds) → Q r H'
theorem zip_rows {xs : List Str} {ds : List PyData} {i : Nat} {x : Str} {d : PyData} (e1 : xs[i]? = some x) (e2 : ds[i]? = some d) : ((xs.zip ds)[i]?).map rowD = some (rowD (x, d)) := by
  rw [(List.getElem?_zip_eq_some (z := (x, d))).mpr ⟨e1, e2⟩]
  rfl
section
variable {P : Program} {w : World} {K : PySem.W.Frag} {mg : Str → Option Value} {base : Heap}
theorem sql_same {H H' : Hp} {a : Addr} {xs : List V} (s : Same H H') (h : SqL K H a xs) : SqL K H' a xs := by
  rcases h with (h | ⟨o, h⟩) | h
  · exact .inl (.inl (s _ _ h))
  · exact .inl (.inr ⟨o, s _ _ h⟩)
  · exact .inr h
abbrev s_l_remade : Stmt := top 12
abbrev N_l_remade : List Str := ["_law_tree", "_law_parts_here", "_law_word", "_law_rows", "_law_at"]
theorem sc_l_remade : FnScope N_l_remade ["_law_tree", "_law_parts_here"] (defScope s_l_remade) := ⟨rfl, rfl, rfl, by decide +kernel, rfl, by decide +kernel, by decide +kernel⟩
theorem ok_l_remade (T : Txt mg) (D : At K mg "_law_remade" s_l_remade ["_law_tree", "_law_parts_here"]) : Cl P w K mg base 1 "_law_remade" (spRemade K) := by
  refine cl_of D sc_l_remade (fun vs H Q E h => ?_) fun f cdv A outer s H vs Q E hr h => ?_
  · obtain ⟨v, b, h, ds0, ds, us, rfl, _⟩ := h
    rfl
  · obtain ⟨v, b, h, ds0, ds, us, rfl, hd, o, hln, hlen, fl, hb, hu, k⟩ := h
    obtain ⟨a, its, rfl, hs, hx⟩ := view hd
    refine ⟨_, (pss_cons (ps_set (i := 2) sc_l_remade.nd rfl (Or.inl rfl) (pe_ix ix_tup (pv 0) pe_int (fun _ _ => rfl)))
      (pss_cons (ps_if (pt_cmpR op_eq (pe_callB call_len_seq (by rfl) T.len (by decide +kernel) (pa_cons (pv 1) pa_nil)) pe_int (nomark _))
        (pss_one (ps_ret (pv 0)))
        pss_nil)
      (pss_cons (ps_if (pt_inW (pv 2) (.cons (.cons (.cons (.cons (.cons .nil))))) (show 5 ≤ sizeLine by decide) (by rfl))
        (pss_one (ps_ret (pe_tup (pa_cons (pv 2) (pa_cons (pe_ix ix_tup (pv 0) pe_int (fun _ _ => rfl)) (pa_cons (pe_ix ix_list (pv 1) pe_int (fun _ _ => rfl)) pa_nil))))))
        pss_nil)
      (pss_cons (ps_if (pt_inW (pv 2) (.cons (.cons .nil)) (show 2 ≤ sizeLine by decide) (by rfl))
        (pss_cons (ps_setLc (i := 3) (own := [("_law_at", 4)]) rfl sc_l_remade.nd rfl rfl (sw_true rfl rfl rfl (by decide +kernel)) (pi_range1 (by rfl) T.range (pa_cons (pe_callB call_len_seq (by rfl) T.len (by decide +kernel) (pa_cons (pe_ix ix_tup (pv 0) pe_int (fun _ _ => rfl)) pa_nil)) pa_nil)) (blkOk_by (N := N_l_remade) (sc := defScope s_l_remade) (by decide +kernel))
      (fun _ _ _ _ _ => (pg_name (i := 4) sc_l_remade.nd rfl (Or.inl rfl)))
      (fun _ _ _ _ _ => pts_nil)
      (fun _ _ _ _ _ => (pe_tup (pa_cons (pe_ix (kx_tup (K := K)) (pe_ix (kx_tup (K := K)) (pe_ix (kx_tup (K := K)) (pv 0) pe_int (fun _ _ => rfl)) (pv 4) (fun _ _ => rfl)) pe_int (fun _ _ => rfl)) (pa_cons (pe_ix (kx_list (K := K)) (pv 1) (pv 4) (fun _ _ => rfl)) pa_nil)))))
        (pss_one (ps_ret (pe_tup (pa_cons (pv 2) (pa_cons (pe_tupleOf (by rfl) T.tuple (pv 3)) (pa_cons (pe_ix ix_list (pv 1) (pe_un un_neg pe_int) (fun _ _ => rfl)) pa_nil)))))))
        pss_nil)
      (pss_cons (ps_if (pt_cmpR op_eq (pv 2) pe_str (nomark _))
        (pss_one (ps_ret (pe_tup (pa_cons pe_str (pa_cons (pe_ix ix_list (pv 1) pe_int (fun _ _ => rfl)) (pa_cons (pe_tupleOf (by rfl) T.tuple (pe_slice sl_list (pv 1) (po_some pe_int) po_none)) pa_nil))))))
        pss_nil)
      (pss_cons (ps_if (pt_cmpR op_eq (pv 2) pe_str (nomark _))
        (pss_one (ps_ret (pe_tup (pa_cons pe_str (pa_cons (pe_tupleOf (by rfl) T.tuple (pv 1)) pa_nil)))))
        pss_nil)
      (pss_cons (ps_if (pt_cmpR op_eq (pv 2) pe_str (nomark _))
        (pss_one (ps_ret (pe_tup (pa_cons pe_str (pa_cons (pe_ix ix_tup (pv 0) pe_int (fun _ _ => rfl)) (pa_cons (pe_tupleOf (by rfl) T.tuple (pv 1)) pa_nil))))))
        pss_nil)
      (pss_one (ps_ret (pe_op op_catA (pe_tup (pa_cons (pv 2) pa_nil)) (pe_tupleOf (by rfl) T.tuple (pv 1)))))))))))), ?_⟩
    have hul := DpAll.len hu
    refine ⟨_, rfl, a, its, _, _, rfl, rfl, hs, hx.head, ?_⟩
    refine ⟨_, rfl, b, us, rfl, .inl hb, rfl, _, rfl, ?_⟩
    show if decide (V.int (us.length : Nat) = V.int 0) = true then _ else _
    rw [dec_int]
    by_cases q0 : us.length = 0
    · have e1 : (((us.length : Nat) : Int) == 0) = true := by rw [q0]; rfl
      rw [e1]
      have e2 : ds = [] := List.length_eq_zero_iff.mp (by omega)
      have e3 : ds0 = [] := List.length_eq_zero_iff.mp (by rw [← hln, e2]; rfl)
      subst e2 e3
      exact iteT ⟨_, rfl, k _ _ (Same.refl _) hd⟩
    have e1 : (((us.length : Nat) : Int) == 0) = false := by
      by_cases z : (((us.length : Nat) : Int) == 0) = true
      · exact absurd (by have := eq_of_beq z; omega) q0
      · exact Bool.eq_false_iff.mpr z
    rw [e1]
    refine iteF ?_
    refine ⟨_, rfl, rfl, fun H1 s1 => ?_⟩
    have hs1 := sqt_same s1 hs
    have hx1 := hx.same s1
    have hb1 := sql_same s1 hb
    have hu1 := dps_same s1 _ _ hu
    rw [in_F o]
    cases eF : kF h with
    | true =>
      refine iteT ?_
      cases h with
      | fn xs =>
        obtain ⟨d, rfl⟩ := one_of (show ds.length = 1 by rw [hln]; exact o.1)
        obtain ⟨q, vs, rfl, hq, hv⟩ := hx1
        obtain ⟨v, rfl, hv'⟩ := dpAll_one hu1
        refine ⟨_, rfl, _, rfl, a, _, _, _, rfl, rfl, hs1, atI_nat (j := 1) rfl, _, rfl, b, _, _, _, rfl, rfl, hb1, atI_nat (j := 0) rfl, by show 3 ≤ sizeLine; decide, fun t ht => ?_⟩
        have s2 := same_new (o := .tup [.str (wd (.fn xs)), .ref q, v]) ht
        exact k _ _ (s1.trans s2) (unview (h := .fn xs) (.inl (.inl upd_same)) ⟨q, [v], rfl, sqt_same s2 hq, dps_same s2 _ _ hu1⟩)
      | one w x =>
        obtain ⟨d, rfl⟩ := one_of (show ds.length = 1 by rw [hln]; exact o.1)
        obtain ⟨vs, rfl, hv⟩ := hx1
        obtain ⟨v, rfl, hv'⟩ := dpAll_one hu1
        refine ⟨_, rfl, _, rfl, a, _, _, _, rfl, rfl, hs1, atI_nat (j := 1) rfl, _, rfl, b, _, _, _, rfl, rfl, hb1, atI_nat (j := 0) rfl, by show 3 ≤ sizeLine; decide, fun t ht => ?_⟩
        have s2 := same_new (o := .tup [.str (wd (.one w x)), .str x, v]) ht
        exact k _ _ (s1.trans s2) (unview (h := .one w x) (.inl (.inl upd_same)) ⟨[v], rfl, dps_same s2 _ _ hu1⟩)
      | _ => cases eF
    | false =>
    refine iteF ?_
    refine ⟨_, rfl, rfl, fun H2 s12 => ?_⟩
    have S2 := s1.trans s12
    have hb2 := sql_same s12 hb1
    have hu2 := dps_same s12 _ _ hu1
    have hx2 := hx1.same s12
    have hs2 := sqt_same s12 hs1
    rw [in_B o]
    cases eB : kB h with
    | true =>
      refine iteT ?_
      cases h with
      | bind w xs =>
        obtain ⟨q, rows, vs, rfl, hq, hrows, hv⟩ := hx2
        have hdl0 : ds0.length = xs.length + 1 := o.1
        have hdl : ds.length = xs.length + 1 := by rw [hln]; exact hdl0
        have hrl : rows.length = xs.length := by
          have := DpAll.len hrows
          rw [List.length_map, List.length_zip] at this
          omega
        refine ⟨_, rfl, a, _, _, _, rfl, rfl, hs2, atI_nat (j := 1) rfl, q, rows, rfl, .inr hq, _, rfl, by omega, by omega, fun L hL => ?_⟩
        refine lc_data (K := K) (walk_upto (n := (rows.length : Int).toNat)) (fun i => ((xs.zip ds)[i]?).map rowD) hL (by omega) (fun _ _ => trivial) (fun i _ d e => ?_) ?_ ?_
        · obtain ⟨p, e', rfl⟩ := Option.map_eq_some_iff.mp e
          have := (List.getElem?_zip_eq_some.mp e').2
          have f2 := flatDs_all fl _ (List.mem_of_getElem? this)
          simp [rowD, flatD, flatDs, f2]
        · rintro i x H3 H3' hi s3 ⟨rfl, rfl⟩ Q1 Q0 q1 q0
          have hi2 : i < rows.length := by omega
          have er := List.getElem?_eq_getElem hi2
          obtain ⟨d, g1, g2⟩ := DpAll.atV hrows er
          obtain ⟨p, ep, rfl⟩ := map_at g1
          obtain ⟨r, its3, erw, hr3, hi3⟩ := dp_tup (dp_same s3 _ _ g2)
          rw [erw] at er
          have eu := List.getElem?_eq_getElem (show i < us.length by omega)
          obtain ⟨d2, g3, g4⟩ := DpAll.atV hu2 eu
          cases hi3 with
          | cons h1 h2 =>
            have e1s := dp_str h1
            subst e1s
            refine ⟨rfl, ?_⟩
            refine ⟨_, rfl, a, _, _, _, rfl, rfl, sqt_same s3 hs2, atI_nat (j := 1) rfl, _, rfl, q, rows, _, _, rfl, rfl, sqt_same s3 hq, atI_nat er, r, _, _, _, rfl, rfl, hr3, atI_nat (j := 0) rfl, _, rfl, _, rfl, b, us, _, _, rfl, rfl, sql_same s3 hb2, atI_nat eu, by show 2 ≤ sizeLine; decide, fun t ht => ?_⟩
            have s5 := same_new (o := .tup [.str p.1, us[i]]) ht
            refine q1 _ _ (rowD (p.1, d2)) (zip_rows (List.getElem?_zip_eq_some.mp ep).1 g3) s5 ?_
            exact .tup (.inl (.inl upd_same)) (.cons (.str _) (.cons (dp_same (s3.trans s5) _ _ g4) .nil))
        · intro H3 acc s3 hacc ha3
          rw [show (rows.length : Int).toNat = (xs.zip ds).length by rw [List.length_zip]; omega, range_map] at ha3
          obtain ⟨ul, dl, eul, edl, hdl2⟩ : ∃ ul dl, us = us.take xs.length ++ [ul] ∧ ds.drop xs.length = [dl] ∧ Dp K H2 ul dl := by
            obtain ⟨dl, edl⟩ := one_of (show (ds.drop xs.length).length = 1 by rw [List.length_drop]; omega)
            have hud := DpAll.drop xs.length hu2
            rw [edl] at hud
            obtain ⟨ul, e, h⟩ := dpAll_one hud
            exact ⟨ul, dl, by rw [← e, List.take_append_drop], edl, h⟩
          refine ⟨_, rfl, _, rfl, .inl ⟨L, _, rfl, .inl (.inl hacc), fun t3 ht3 => ?_⟩⟩
          have s4 := same_new (o := .tup acc) ht3
          have s34 := s3.trans s4
          refine ⟨_, rfl, _, rfl, b, _, _, _, rfl, rfl, sql_same s34 hb2, by rw [eul]; exact atI_last _ _, by show 3 ≤ sizeLine; decide, fun t5 ht5 => ?_⟩
          have s5 := same_new (o := .tup [.str (wd (.bind w xs)), .ref t3, ul]) ht5
          refine k _ _ ((S2.trans s34).trans s5) (unview (h := .bind w xs) (.inl (.inl upd_same)) ⟨t3, acc, [ul], rfl, sqt_same s5 (.inl (.inl upd_same)), dps_same (s4.trans s5) _ _ ha3, ?_⟩)
          rw [edl]
          exact .cons (dp_same (s34.trans s5) _ _ hdl2) .nil
      | _ => cases eB
    | false =>
    refine iteF ?_
    refine ⟨_, rfl, rfl, _, rfl, ?_⟩
    rw [eq_call o]
    cases eC : isCall h with
    | true =>
      refine iteT ?_
      cases h with
      | call =>
        obtain ⟨u0, ur, rfl⟩ : ∃ u0 ur, us = u0 :: ur := by
          cases us with
          | nil => exact absurd rfl q0
          | cons u0 ur => exact ⟨u0, ur, rfl⟩
        refine ⟨_, rfl, b, _, _, _, rfl, rfl, hb2, atI_nat (j := 0) rfl, _, rfl, 1, rfl, b, _, rfl, hb2, fun p3 hp3 => ?_⟩
        have ec : cutV (u0 :: ur) (some (1 : Int)) none = ur := cut_from (k := 1) (by rw [List.length_cons]; omega)
        have s3 := same_new (o := .lst (cutV (u0 :: ur) (some (1 : Int)) none)) hp3
        refine .inl ⟨p3, _, rfl, .inl (.inl upd_same), fun t4 ht4 => ⟨by show 3 ≤ sizeLine; decide, fun t ht => ?_⟩⟩
        have s4 := same_new (o := .tup (cutV (u0 :: ur) (some (1 : Int)) none)) ht4
        have s5 := same_new (o := .tup [.str "call", u0, .ref t4]) ht
        have s35 := s3.trans (s4.trans s5)
        refine k _ _ (S2.trans s35) (unview (h := .call) (.inl (.inl upd_same)) ⟨t4, [u0], cutV (u0 :: ur) (some (1 : Int)) none, rfl, DpAll.take 1 (dps_same s35 _ _ hu2), .inl (.inl (s5 _ _ upd_same)), ?_⟩)
        have z := DpAll.drop 1 (dps_same s35 _ _ hu2)
        have e2 : List.drop 1 (u0 :: ur) = cutV (u0 :: ur) (some (1 : Int)) none := ec.symm
        rw [e2] at z
        exact z
      | _ => cases eC
    | false =>
    refine iteF ?_
    refine ⟨_, rfl, rfl, _, rfl, ?_⟩
    rw [eq_do o]
    cases eD : isDo h with
    | true =>
      refine iteT ?_
      cases h with
      | doo =>
        refine ⟨_, rfl, .inl ⟨b, us, rfl, hb2, fun t4 ht4 => ⟨by show 2 ≤ sizeLine; decide, fun t ht => ?_⟩⟩⟩
        have s4 := same_new (o := .tup us) ht4
        have s5 := same_new (o := .tup [.str "do", .ref t4]) ht
        exact k _ _ (S2.trans (s4.trans s5)) (unview (h := .doo) (.inl (.inl upd_same)) ⟨t4, us, rfl, .inl (.inl (s5 _ _ upd_same)), dps_same (s4.trans s5) _ _ hu2⟩)
      | _ => cases eD
    | false =>
    refine iteF ?_
    refine ⟨_, rfl, rfl, _, rfl, ?_⟩
    rw [eq_op o]
    cases eO : isOp h with
    | true =>
      refine iteT ?_
      cases h with
      | op o' =>
        obtain ⟨q, vs, rfl, hq, hv⟩ := hx2
        refine ⟨_, rfl, a, _, _, _, rfl, rfl, hs2, atI_nat (j := 1) rfl, _, rfl, .inl ⟨b, us, rfl, hb2, fun t4 ht4 => ⟨by show 3 ≤ sizeLine; decide, fun t ht => ?_⟩⟩⟩
        have s4 := same_new (o := .tup us) ht4
        have s5 := same_new (o := .tup [.str "op", .str o', .ref t4]) ht
        exact k _ _ (S2.trans (s4.trans s5)) (unview (h := .op o') (.inl (.inl upd_same)) ⟨t4, us, rfl, .inl (.inl (s5 _ _ upd_same)), dps_same (s4.trans s5) _ _ hu2⟩)
      | _ => cases eO
    | false =>
    refine iteF ?_
    cases h with
    | plain w =>
      refine ⟨_, rfl, by show 1 ≤ sizeLine; decide, fun t3 ht3 => ?_⟩
      have s3 := same_new (o := .tup [.str (wd (.plain w))]) ht3
      refine ⟨_, rfl, .inl ⟨b, us, rfl, sql_same s3 hb2, fun t4 ht4 => ?_⟩⟩
      have s4 := same_new (o := .tup us) ht4
      refine cat_any (sqt_same s4 (.inl (.inl upd_same))) (.inl (.inl upd_same)) (Nat.le_trans (show 1 + us.length ≤ 200 by omega) (by decide)) fun t5 H5 s5 ht5 => ?_
      exact k _ _ (S2.trans (s3.trans (s4.trans s5))) (unview (h := .plain w) ht5 ⟨us, rfl, dps_same (s3.trans (s4.trans s5)) _ _ hu2⟩)
    | num i => exact absurd (by rw [hul, hln]; exact o) q0
    | name i => exact absurd (by rw [hul, hln]; exact o.1) q0
    | lit i => exact absurd (by rw [hul, hln]; exact o.1) q0
    | one _ _ => cases eF
    | fn _ => cases eF
    | bind _ _ => cases eB
    | doo => cases eD
    | call => cases eC
    | op _ => cases eO
end
end K13

namespace K13
open PySem L2 Cm
def placeD (p : List Int × Tr) : PyData := .tuple [pathI p.1, p.2.enc]
/-- a tree in a tree -/
structure Sub (s t : Tr) : Prop where
  ok : s.ok
  dd : s.dd 0 ≤ t.dd 0
  sz : s.size ≤ t.size
theorem flat_places (L : List (List Int × Tr)) : flatDs (L.map placeD) = true := flatDs_of _ fun d hd => by
  obtain ⟨p, _, rfl⟩ := List.mem_map.mp hd
  have h1 := flatDs_ints p.1
  have h2 := flat_enc p.2
  simp [placeD, pathI, flatD, flatDs, h1, h2]
theorem Sub.part {h : Hd} {ps : List Tr} {c : Tr} (o : ∀ t ∈ ps, t.ok) (m : c ∈ ps) {s : Tr} (z : Sub s c) : Sub s (.mk h ps) := by
  refine ⟨z.ok, ?_, ?_⟩
  · have h1 := dds_le.mp (Nat.le_refl (Tr.dds 0 ps)) c m
    have h2 := z.dd
    show s.dd 0 ≤ wt 0 h + Tr.dds 0 ps
    omega
  · have h1 := sizeMem m
    have h2 := z.sz
    show s.size ≤ Tr.sizes ps + 1
    omega
theorem eq_rec {h : Hd} {n : Nat} (o : hok h n) : decide (V.str (wd h) = V.str "rec") = (kB h && !isLet h) := by
  have other : kd h ≠ 5 → decide (wd h = "rec") = false := fun q => by
    have key : ∀ c < 10, c ≠ 5 → ∀ w ∈ Cm.wordsOf c, decide (w = ("rec" : Str)) = false := by decide +kernel
    exact key _ (wd_mem o).1 q _ (wd_mem o).2
  rw [decS]
  cases h with
  | bind w x =>
    have key : ∀ w ∈ bindW, decide (w = ("rec" : Str)) = (true && !decide (w = ("let" : Str))) := by decide +kernel
    exact key w o.2.1
  | num i => exact other (Nat.ne_of_beq_eq_false rfl)
  | name i => exact other (Nat.ne_of_beq_eq_false rfl)
  | lit i => exact other (Nat.ne_of_beq_eq_false rfl)
  | fn i => exact other (Nat.ne_of_beq_eq_false rfl)
  | one i _ => exact other (Nat.ne_of_beq_eq_false rfl)
  | doo => exact other (Nat.ne_of_beq_eq_false rfl)
  | call => exact other (Nat.ne_of_beq_eq_false rfl)
  | op i => exact other (Nat.ne_of_beq_eq_false rfl)
  | plain i => exact other (Nat.ne_of_beq_eq_false rfl)
def spPlaces (K : PySem.W.Frag) (n : Nat) : Sp := fun vs H Q _ => ∃ (v : V) (b : Addr) (fr : Bool) (t : Tr) (pre : List Int), vs = [v, .ref b, .bl fr] ∧ Dp K H v t.enc ∧ t.ok ∧ t.dep ≤ n ∧ t.size ≤ 10000 ∧ SqT K H b (pre.map V.int) ∧ pre.length + n ≤ 1000 ∧
  ∀ (l : Addr) (us : List V) (L : List (List Int × Tr)) (H' : Hp), Same H H' → H l = none → H' l = some (.lst us) → DpAll K H' us (L.map placeD) → (∀ p ∈ L, Sub p.2 t) → L.length ≤ t.size → (fr = true → L ≠ []) → Q (.ref l) H'
section
variable {P : Program} {w : World} {K : PySem.W.Frag} {mg : Str → Option Value} {base : Heap}
abbrev s_l_places : Stmt := top 13
abbrev N_l_places : List Str := ["_law_tree", "_law_path", "_law_free", "_law_out", "_law_at", "_law_rows", "_law_part", "_law_names"]
theorem sc_l_places : FnScope N_l_places ["_law_tree", "_law_path", "_law_free"] (defScope s_l_places) := ⟨rfl, rfl, rfl, by decide +kernel, rfl, by decide +kernel, by decide +kernel⟩
theorem ok_l_places (T : Txt mg) (c_l_parts : Cl P w K mg base 1 "_law_parts" (spPairs K)) (D : At K mg "_law_places" s_l_places ["_law_tree", "_law_path", "_law_free"]) : ∀ n, Cl P w K mg base (n + 2) "_law_places" (spPlaces K n) := by
  intro n
  induction n with
  | zero =>
    refine cl_of (k := 1) D sc_l_places (fun vs H Q E h => ?_) fun f cdv A outer s H vs Q E hr h => ?_
    · obtain ⟨v, b, fr, t, pre, rfl, _⟩ := h
      rfl
    · obtain ⟨v, b, fr, t, pre, _, _, _, z, _⟩ := h
      cases t with
      | mk hd ps => exact absurd z (by show ¬ (Tr.deps ps + 1 ≤ 0); omega)
  | succ n ih =>
    refine cl_of (k := n + 2) D sc_l_places (fun vs H Q E h => ?_) fun f cdv A outer s H vs Q E hr h => ?_
    · obtain ⟨v, b, fr, t, pre, rfl, _⟩ := h
      rfl
    · obtain ⟨v, b, fr, t, pre, rfl, hd, o, hdep, hsz, hb, hpl, k⟩ := h
      have subT : Sub t t := ⟨o, Nat.le_refl _, Nat.le_refl _⟩
      cases t with
      | mk h ps =>
      obtain ⟨o1, o2, o3⟩ := okP o
      have hsz' : Tr.sizes ps + 1 ≤ 10000 := hsz
      obtain ⟨a, its, rfl, hs, hx⟩ := view hd
      refine ⟨_, (pss_mid (ps_set (i := 3) sc_l_places.nd rfl (Or.inl rfl) (pe_ifExp (pt_val (pv 2)) (pe_lst (pa_cons (pe_tup (pa_cons (pv 1) (pa_cons (pv 0) pa_nil))) pa_nil)) (pe_lst pa_nil)))
      (pss_cons (ps_set (i := 4) sc_l_places.nd rfl (Or.inl rfl) pe_int)
      (pss_mid (ps_set (i := 5) sc_l_places.nd rfl (Or.inl rfl) (pe_ifExp (pt_cmpR op_eq (pe_ix ix_tup (pv 0) pe_int (fun _ _ => rfl)) pe_str (nomark _)) (pe_callB call_len_seq (by rfl) T.len (by decide +kernel) (pa_cons (pe_ix ix_tup (pv 0) pe_int (fun _ _ => rfl)) pa_nil)) pe_int))
      (pss_cons (ps_for PassesOwn.never rfl (pi_list (pe_c c_l_parts hr (by omega) (by rfl) (pa_cons (pv 0) pa_nil))) (pg_tup (by rfl) (pgs_cons (pg_name (i := 6) sc_l_places.nd rfl (Or.inl rfl)) (pgs_cons (pg_name (i := 7) sc_l_places.nd rfl (Or.inl rfl)) pgs_nil)))
        (pss_cons (ps_set (i := 3) sc_l_places.nd rfl (Or.inl rfl) (pe_op op_cat (pv 3) (pe_c ih hr (by omega) (by rfl) (pa_cons (pv 6) (pa_cons (pe_op op_catA (pv 1) (pe_tup (pa_cons (pv 4) pa_nil))) (pa_cons (pe_cmpR op_ge (pv 4) (pv 5) (nomark _)) pa_nil))))))
        (pss_one (ps_set (i := 4) sc_l_places.nd rfl (Or.inl rfl) (pe_op op_add (pv 4) pe_int)))))
      (pss_one (ps_ret (pv 3))))))), ?_⟩
      refine ⟨fun σ' H' => ∃ (F : Addr) (acc : List V) (L : List (List Int × Tr)), σ' = [some (.ref a), some (.ref b), some (.bl fr), some (.ref F), none, none, none, none] ∧ Same H H' ∧ H F = none ∧ H' F = some (.lst acc) ∧ DpAll K H' acc (L.map placeD) ∧ (∀ p ∈ L, Sub p.2 (.mk h ps)) ∧ L.length ≤ 1 ∧ (fr = true → L ≠ []), ?_, ?_⟩
      · refine ⟨_, rfl, fr, rfl, ?_⟩
        cases fr with
        | true =>
          refine iteT ⟨_, rfl, _, rfl, by show 2 ≤ sizeLine; decide, fun t1 ht1 => ⟨by show 1 ≤ sizeLine; decide, fun F hF => ?_⟩⟩
          have s1 := same_new (o := .tup [.ref b, .ref a]) ht1
          have s2 := same_new (o := .lst [.ref t1]) hF
          refine ⟨F, _, [(pre, .mk h ps)], rfl, s1.trans s2, free_of s1 hF, upd_same, ?_, fun p m => ?_, Nat.le_refl _, fun _ z => by cases z⟩
          · exact .cons (.tup (.inl (.inl (s2 _ _ upd_same))) (.cons (dp_pathI (sqt_same (s1.trans s2) hb)) (.cons (dp_same (s1.trans s2) _ _ hd) .nil))) .nil
          · rw [List.mem_singleton.mp m]
            exact subT
        | false => exact iteF ⟨by show 0 ≤ sizeLine; decide, fun F hF => ⟨F, [], [], rfl, same_new hF, hF, upd_same, .nil, (fun p m => by cases m), Nat.zero_le _, fun z => by cases z⟩⟩
      · rintro σ' H0 ⟨F, acc, L, rfl, s0, nF, hF0, ha0, hL0, hn0, hf0⟩
        refine ⟨fun σ' H' => ∃ r : Int, σ' = [some (.ref a), some (.ref b), some (.bl fr), some (.ref F), some (.int 0), some (.int r), none, none] ∧ H' = H0, ?_, ?_⟩
        · have hs0 := sqt_same s0 hs
          have hx0 := hx.same s0
          refine ⟨_, rfl, a, its, _, _, rfl, rfl, hs0, hx0.head, rfl, _, rfl, ?_⟩
          rw [eq_rec o1]
          cases eR : (kB h && !isLet h) with
          | false => exact iteF ⟨_, rfl, rfl⟩
          | true =>
            cases h with
            | bind w xs =>
              obtain ⟨q, rows, vs, rfl, hq, _⟩ := hx0
              exact iteT ⟨_, rfl, a, _, _, _, rfl, rfl, hs0, atI_nat (j := 1) rfl, q, rows, rfl, .inr hq, _, rfl, rfl⟩
            | _ => cases eR
        · rintro σ' H0' ⟨r, rfl, rfl⟩
          refine ⟨_, rfl, .ref a, h, Tr.encL ps, rfl, dp_same s0 _ _ hd, by rw [encL_len]; exact o1, flat_encL ps, by rw [encL_len]; omega, fun l us H1 s1 nl hl hu => ?_⟩
          have hul := DpAll.len hu
          have hpl2 : (pairs h (Tr.encL ps)).length = ps.length := by
            unfold pairs bnds
            rw [List.length_map, List.length_zip, List.length_map, List.length_range, encL_len]
            omega
          rw [hpl2] at hul
          refine ⟨l, rfl, ⟨_, .inl (.inl hl)⟩, ?_⟩
          refine for_it (walk_list (xs := us)) (fun i σ H' => ∃ (F : Addr) (acc : List V) (L : List (List Int × Tr)) (v6 v7 : Option V), σ = [some (.ref a), some (.ref b), some (.bl fr), some (.ref F), some (.int (i : Nat)), some (.int r), v6, v7] ∧ Same H H' ∧ Same H1 H' ∧ H F = none ∧ H' F = some (.lst acc) ∧
              DpAll K H' acc (L.map placeD) ∧ (∀ p ∈ L, Sub p.2 (.mk h ps)) ∧ L.length ≤ 1 + Tr.sizes (ps.take i) ∧ (fr = true → L ≠ []))
            ⟨F, acc, L, none, none, rfl, s0.trans s1, Same.refl _, nF, s1 _ _ hF0, dps_same s1 _ _ ha0, hL0, by omega, hf0⟩ (fun i σ H' _ z => ?_) ?_ ?_
          · obtain ⟨_, _, _, _, _, _, _, z, _⟩ := z
            exact .inl (.inl (z _ _ hl))
          · rintro i x σ H2 H2' hi ⟨F, acc, L, v6, v7, rfl, s2, s12, nF, hF2, ha2, hL2, hn2, hf2⟩ ⟨rfl, e2⟩
            obtain ⟨d, g1, g2⟩ := DpAll.atV hu e2
            obtain ⟨p, ep, rfl⟩ := map_at g1
            have ez := List.getElem?_zip_eq_some.mp ep
            obtain ⟨c, ec, ecd⟩ := encLat ez.1
            obtain ⟨T1, its1, rfl, hT1, hi1⟩ := dp_tup (dp_same s12 _ _ g2)
            cases hi1 with
            | cons h1 h2 =>
              obtain ⟨v2, rfl, h3⟩ := dpAll_one h2
              rw [ecd] at h1
              refine ⟨T1, _, rfl, hT1, rfl, _, _, rfl, _, _, rfl, rfl, ?_⟩
              have hcm : c ∈ ps := List.mem_of_getElem? ec
              have hcs := sizeMem hcm
              obtain ⟨et, hil⟩ := takeNext ec
              refine ⟨_, rfl, _, rfl, _, rfl, _, rfl, by show 1 ≤ sizeLine; decide, fun t4 ht4 => ?_⟩
              have s4 := same_new (o := .tup [.int (i : Nat)]) ht4
              refine cat_any (sqt_same (s2.trans s4) hb) (.inl (.inl upd_same)) (by rw [List.length_map]; exact Nat.le_trans (show pre.length + 1 ≤ 2000 by omega) (by decide)) fun t5 H5 s5 ht5 => ?_
              have s45 := s4.trans s5
              have hpre : SqT K H5 t5 ((pre ++ [((i : Nat) : Int)]).map V.int) := by rw [List.map_append]; exact ht5
              refine ⟨_, rfl, _, rfl, _, _, rfl, rfl, ?_⟩
              refine ⟨_, t5, _, c, pre ++ [((i : Nat) : Int)], rfl, dp_same s45 _ _ h1, o3 c hcm, dep_mk.mp hdep c hcm, by omega, hpre, by rw [List.length_append, List.length_singleton]; omega, fun l2 ws L2 H6 s6 nl2 hl2 hw hL6 hn6 _ => ?_⟩
              have s46 := s45.trans s6
              have hal := DpAll.len ha2
              have hwl := DpAll.len hw
              rw [List.length_map] at hal hwl
              have hst := sizesTake ps i
              refine ⟨F, l2, acc, ws, rfl, rfl, s46 _ _ hF2, hl2, Nat.le_trans (show acc.length + ws.length ≤ 50000 by omega) (by decide), fun F2 hF2' => ?_⟩
              have s7 := same_new (o := .lst (acc ++ ws)) hF2'
              refine ⟨_, rfl, _, _, rfl, rfl, ?_⟩
              refine ⟨F2, _, L ++ L2, _, _, rfl, (s2.trans s46).trans s7, (s12.trans s46).trans s7, free_of (s2.trans s46) hF2', upd_same, ?_, fun p m => ?_, ?_, fun z => ?_⟩
              · rw [List.map_append]
                exact DpAll.app (dps_same (s46.trans s7) _ _ ha2) (dps_same s7 _ _ hw)
              · rcases List.mem_append.mp m with m | m
                · exact hL2 p m
                · exact (hL6 p m).part o3 hcm
              · rw [et, List.length_append, sizes_snoc]
                omega
              · intro y
                exact hf2 z (List.append_eq_nil_iff.mp y).1
          · rintro σ H2 ⟨F, acc, L, v6, v7, rfl, s2, s12, nF, hF2, ha2, hL2, hn2, hf2⟩
            rw [List.take_of_length_le (by omega)] at hn2
            exact ⟨_, rfl, k F acc L _ s2 nF hF2 ha2 hL2 (by show L.length ≤ Tr.sizes ps + 1; omega) hf2⟩
end
end K13

namespace K13
open PySem L2 Cm
def wordsG (sa : Bool) : List Str := if sa = true then ["set"] else ["name", "set"]
theorem in_G {h : Hd} {n : Nat} (o : hok h n) (sa : Bool) : inV (.str (wd h)) ((wordsG sa).map V.str) = !(own sa h).isEmpty := by
  have other : kd h ≠ 1 → kd h ≠ 3 → inV (.str (wd h)) ((wordsG sa).map V.str) = false := fun q q2 => by
    have key : ∀ sa : Bool, ∀ c < 10, c ≠ 1 → c ≠ 3 → ∀ w ∈ Cm.wordsOf c, inV (.str w) ((wordsG sa).map V.str) = false := by decide +kernel
    exact key sa _ (wd_mem o).1 q q2 _ (wd_mem o).2
  cases h with
  | name x => cases sa <;> rfl
  | one w x =>
    have key : ∀ sa : Bool, ∀ w ∈ oneW, inV (.str w) ((wordsG sa).map V.str) = decide (w = "set") := by decide +kernel
    show inV (.str w) _ = !(if w = "set" then [x] else [] : List Str).isEmpty
    rw [key sa w o.2.1]
    by_cases z : w = "set"
    · rw [if_pos z, decide_eq_true z]; rfl
    · rw [if_neg z, decide_eq_false z]; rfl
  | num i => exact other (Nat.ne_of_beq_eq_false rfl) (Nat.ne_of_beq_eq_false rfl)
  | lit i => exact other (Nat.ne_of_beq_eq_false rfl) (Nat.ne_of_beq_eq_false rfl)
  | fn i => exact other (Nat.ne_of_beq_eq_false rfl) (Nat.ne_of_beq_eq_false rfl)
  | bind i _ => exact other (Nat.ne_of_beq_eq_false rfl) (Nat.ne_of_beq_eq_false rfl)
  | doo => exact other (Nat.ne_of_beq_eq_false rfl) (Nat.ne_of_beq_eq_false rfl)
  | call => exact other (Nat.ne_of_beq_eq_false rfl) (Nat.ne_of_beq_eq_false rfl)
  | op i => exact other (Nat.ne_of_beq_eq_false rfl) (Nat.ne_of_beq_eq_false rfl)
  | plain i => exact other (Nat.ne_of_beq_eq_false rfl) (Nat.ne_of_beq_eq_false rfl)
theorem own_at {K : PySem.W.Frag} {H : Hp} {ds : List PyData} {h : Hd} {its : List V} {sa : Bool} (x : Items K H ds h its) (e : (!(own sa h).isEmpty) = true) : ∃ y, own sa h = [y] ∧ atI its 1 = some (.str y) := by
  cases h with
  | name y =>
    obtain rfl := (show its = _ from x)
    cases sa with
    | true => cases e
    | false => exact ⟨y, rfl, atI_nat (j := 1) rfl⟩
  | one w y =>
    obtain ⟨vs, rfl, _⟩ := x
    have e' : (!(if w = "set" then [y] else [] : List Str).isEmpty) = true := e
    by_cases z : w = "set"
    · exact ⟨y, if_pos z, atI_nat (j := 1) rfl⟩
    · rw [if_neg z] at e'
      cases e'
  | _ => cases e
/-- the names that a tree names outside are put into found -/
def spGather (K : PySem.W.Frag) (n : Nat) : Sp := fun vs H Q _ => ∃ (v : V) (wd bd fd : Addr) (t : Tr) (sa : Bool) (bound : List Str) (kvs : List (Key × V)) (ns : List Str), vs = [v, .ref wd, .ref bd, .ref fd] ∧
  Dp K H v t.enc ∧ t.ok ∧ t.dep ≤ n ∧ SqT K H wd ((wordsG sa).map V.str) ∧ SqT K H bd (bound.map V.str) ∧ bound.length + 100 * n ≤ 10000 ∧ H fd = some (.dK kvs) ∧ kvs.map (·.1) = ns.map Sum.inr ∧ ns.Nodup ∧ ns.length + t.size ≤ 10000000 ∧
  ∀ (kvs' : List (Key × V)) (ns' : List Str) (H' : Hp), Kd fd H H' → H' fd = some (.dK kvs') → kvs'.map (·.1) = ns'.map Sum.inr → ns'.Nodup → (∀ x, x ∈ ns' ↔ x ∈ ns ∨ (x ∈ t.free sa ∧ x ∉ bound)) → ns'.length ≤ ns.length + t.size → Q .non H'
theorem sizes_take' (ps : List Tr) : ∀ i, Tr.sizes (ps.take i) ≤ Tr.sizes ps := by
  induction ps with
  | nil => intro i; rw [List.take_nil]; exact Nat.le_refl _
  | cons a ps ih =>
    intro i
    cases i with
    | zero => exact Nat.zero_le _
    | succ i =>
      have := ih i
      show a.size + Tr.sizes (ps.take i) ≤ a.size + Tr.sizes ps
      omega

def preU (pre : List Int) (l : List (List Int × Str)) : List (List Int × Str) := l.map fun p => (pre ++ p.1, p.2)
theorem preU_app (pre : List Int) (l m : List (List Int × Str)) : preU pre (l ++ m) = preU pre l ++ preU pre m := List.map_append
theorem base_own {x y : Str} {h : Hd} {n : Nat} (o : hok h n) (e : own false h = [y]) : baseU x h = if y = x then [([], (if isName h = true then "read" else "set" : Str))] else [] := by
  cases h with
  | name z => cases e; rfl
  | one w z =>
    have e' : (if w = "set" then [z] else [] : List Str) = [y] := e
    by_cases q : w = "set"
    · rw [if_pos q] at e'
      cases e'
      show (if w = "set" ∧ y = x then [([], "set")] else [] : List (List Int × Str)) = _
      by_cases q2 : y = x
      · rw [if_pos ⟨q, q2⟩, if_pos q2]; rfl
      · rw [if_neg (fun u => q2 u.2), if_neg q2]
    · rw [if_neg q] at e'
      cases e'
  | _ => cases e
theorem base_none {x : Str} {h : Hd} (e : own false h = []) : baseU x h = [] := by
  cases h with
  | name z => cases e
  | one w z =>
    have e' : (if w = "set" then [z] else [] : List Str) = [] := e
    by_cases q : w = "set"
    · rw [if_pos q] at e'
      cases e'
    · exact if_neg (fun u => q u.1)
  | _ => rfl
/-- the uses of a name in a tree, the paths behind another path, none where the name is bound -/
def spUsesL (K : PySem.W.Frag) (n : Nat) : Sp := fun vs H Q _ => ∃ (v : V) (x : Str) (b sc : Addr) (t : Tr) (pre : List Int) (scope : List Str), vs = [v, .str x, .ref b, .ref sc] ∧ Dp K H v t.enc ∧ t.ok ∧ t.dep ≤ n ∧ t.size ≤ 10000 ∧ SqT K H b (pre.map V.int) ∧ pre.length + n ≤ 1000 ∧
  SqT K H sc (scope.map V.str) ∧ scope.length + 100 * n ≤ 100000 ∧
  ∀ (l : Addr) (us : List V) (H' : Hp), Same H H' → H l = none → H' l = some (.lst us) → DpAll K H' us ((preU pre (if x ∈ scope then [] else t.uses x)).map useD) → Q (.ref l) H'
section
variable {P : Program} {w : World} {K : PySem.W.Frag} {mg : Str → Option Value} {base : Heap}
abbrev s_l_uses : Stmt := top 14
abbrev N_l_uses : List Str := ["_law_tree", "_law_name", "_law_path", "_law_scope", "_law_out", "_law_at", "_law_part", "_law_names", "_law_inner", "_law_there", "_law_how"]
theorem sc_l_uses : FnScope N_l_uses ["_law_tree", "_law_name", "_law_path", "_law_scope"] (defScope s_l_uses) := ⟨rfl, rfl, rfl, by decide +kernel, rfl, by decide +kernel, by decide +kernel⟩
theorem ok_l_uses (T : Txt mg) (c_l_parts : Cl P w K mg base 1 "_law_parts" (spPairs K)) (D : At K mg "_law_uses" s_l_uses ["_law_tree", "_law_name", "_law_path", "_law_scope"]) : ∀ n, Cl P w K mg base (n + 2) "_law_uses" (spUsesL K n) := by
  intro n
  induction n with
  | zero =>
    refine cl_of (k := 1) D sc_l_uses (fun vs H Q E h => ?_) fun f cdv A outer s H vs Q E hr h => ?_
    · obtain ⟨v, x, b, sc, t, pre, scope, rfl, _⟩ := h
      rfl
    · obtain ⟨v, x, b, sc, t, pre, scope, _, _, _, z, _⟩ := h
      cases t with
      | mk hd ps => exact absurd z (by show ¬ (Tr.deps ps + 1 ≤ 0); omega)
  | succ n ih =>
    refine cl_of (k := n + 2) D sc_l_uses (fun vs H Q E h => ?_) fun f cdv A outer s H vs Q E hr h => ?_
    · obtain ⟨v, x, b, sc, t, pre, scope, rfl, _⟩ := h
      rfl
    · obtain ⟨v, x, b, sc, t, pre, scope, rfl, hd, o, hdep, hsz, hb, hpl, hsc, hsl, k⟩ := h
      cases t with
      | mk h ps =>
      obtain ⟨o1, o2, o3⟩ := okP o
      have hsz' : Tr.sizes ps + 1 ≤ 10000 := hsz
      obtain ⟨a, its, rfl, hs, hx⟩ := view hd
      refine ⟨_, (pss_cons (ps_set (i := 4) sc_l_uses.nd rfl (Or.inl rfl) (pe_lst pa_nil))
      (pss_mid (ps_if (PW.pt (pw_and (pt_inW (pe_ix ix_tup (pv 0) pe_int (fun _ _ => rfl)) (.cons (.cons .nil)) (show 2 ≤ sizeLine by decide) (by rfl)) (pw_and (pt_cmpR op_eq (pe_ix ix_tup (pv 0) pe_int (fun _ _ => rfl)) (pv 1) (nomark _)) (pw_and1 (pt_cmpR op_notIn_seq (pv 1) (pv 3) (by rfl))))))
        (pss_one (ps_expr (pe_bm PySem.F.plainAttrs_list PySem.F.slot_list_append PySem.F.type_list_append mt_append (pv 4) (pa_cons (pe_tup (pa_cons (pv 2) (pa_cons (pe_ifExp (pt_cmpR op_eq (pe_ix ix_tup (pv 0) pe_int (fun _ _ => rfl)) pe_str (nomark _)) pe_str pe_str) pa_nil))) pa_nil))))
        pss_nil)
      (pss_cons (ps_set (i := 5) sc_l_uses.nd rfl (Or.inl rfl) pe_int)
      (pss_cons (ps_for PassesOwn.never rfl (pi_list (pe_c c_l_parts hr (by omega) (by rfl) (pa_cons (pv 0) pa_nil))) (pg_tup (by rfl) (pgs_cons (pg_name (i := 6) sc_l_uses.nd rfl (Or.inl rfl)) (pgs_cons (pg_name (i := 7) sc_l_uses.nd rfl (Or.inl rfl)) pgs_nil)))
        (pss_cons (ps_set (i := 8) sc_l_uses.nd rfl (Or.inl rfl) (pe_c ih hr (by omega) (by rfl) (pa_cons (pv 6) (pa_cons (pv 1) (pa_cons (pe_op op_catA (pv 2) (pe_tup (pa_cons (pv 5) pa_nil))) (pa_cons (pe_op op_catA (pv 3) (pv 7)) pa_nil))))))
        (pss_mid (ps_if (PW.pt (pw_and (pt_cmpR op_eq (pe_ix ix_tup (pv 0) pe_int (fun _ _ => rfl)) pe_str (nomark _)) (pw_and (pt_cmpR op_eq (pv 5) pe_int (nomark _)) (pw_and (pt_cmpR op_eq (pe_ix ix_tup (pv 6) pe_int (fun _ _ => rfl)) pe_str (nomark _)) (pw_and1 (pt_cmpR op_eq (pe_callB call_len_seq (by rfl) T.len (by decide +kernel) (pa_cons (pe_ix ix_tup (pv 0) pe_int (fun _ _ => rfl)) pa_nil)) pe_int (nomark _)))))))
          (pss_one (ps_setLc (i := 8) (own := [("_law_there", 9), ("_law_how", 10)]) (g := gTup K 2 (gCons (gName 9) (gCons (gName 10) gNil))) rfl sc_l_uses.nd rfl rfl (sw_true rfl rfl rfl (by decide +kernel)) (pi_list (pv 8)) (blkOk_by (N := N_l_uses) (sc := defScope s_l_uses) (by decide +kernel))
      (fun _ _ _ _ _ => (pg_tup rfl (pgs_cons (pg_name (i := 9) sc_l_uses.nd rfl (Or.inl rfl)) (pgs_cons (pg_name (i := 10) sc_l_uses.nd rfl (Or.inl rfl)) pgs_nil))))
      (fun _ _ _ _ _ => pts_nil)
      (fun _ _ _ _ _ => (pe_tup (pa_cons (pv 9) (pa_cons pe_str pa_nil))))))
          pss_nil)
        (pss_cons (ps_set (i := 4) sc_l_uses.nd rfl (Or.inl rfl) (pe_op op_cat (pv 4) (pv 8)))
        (pss_one (ps_set (i := 5) sc_l_uses.nd rfl (Or.inl rfl) (pe_op op_add (pv 5) pe_int)))))))
      (pss_one (ps_ret (pv 4))))))), ?_⟩
      refine ⟨by show 0 ≤ sizeLine; decide, fun F hF => ?_⟩
      have s0 := same_new (o := .lst []) hF
      have hF0 : (upd H F (.lst [])) F = some (.lst []) := upd_same
      have nF := hF
      generalize upd H F (.lst []) = H0 at *
      have hs0 := sqt_same s0 hs
      have hx0 := hx.same s0
      refine ⟨fun σ' H' => ∃ (acc : List V), σ' = [some (.ref a), some (.str x), some (.ref b), some (.ref sc), some (.ref F), none, none, none, none, none, none] ∧ Same H H' ∧ H' F = some (.lst acc) ∧ DpAll K H' acc ((preU pre (if x ∈ scope then [] else baseU x h)).map useD), ?_, ?_⟩
      · have none0 : baseU x h = [] → (preU pre (if x ∈ scope then [] else baseU x h)).map useD = [] := fun e => by
          rw [e]
          split <;> rfl
        refine ⟨_, rfl, a, its, _, _, rfl, rfl, hs0, hx0.head, rfl, fun H1 s1 => ?_⟩
        have S1 := s0.trans s1
        have hs1 := sqt_same s1 hs0
        have hx1 := hx0.same s1
        have hF1 := s1 _ _ hF0
        show if inV (.str (wd h)) ((wordsG false).map V.str) = true then _ else _
        rw [in_G o1]
        cases eo : !(own false h).isEmpty with
        | false =>
          have e0 : own false h = [] := by
            cases q : own false h with
            | nil => rfl
            | cons x r => rw [q] at eo; cases eo
          refine iteF (iteF ⟨[], rfl, S1, hF1, ?_⟩)
          rw [none0 (base_none e0)]
          exact .nil
        | true =>
          obtain ⟨y, ey, e1⟩ := own_at hx1 eo
          have eb := base_own (x := x) o1 ey
          refine iteT ⟨_, rfl, a, its, _, _, rfl, rfl, hs1, e1, _, rfl, rfl, _, rfl, ?_⟩
          rw [decS]
          by_cases q : y = x
          · rw [decide_eq_true q]
            refine iteT ⟨_, rfl, _, rfl, sc, _, rfl, .inr (sqt_same S1 hsc), rfl, flat_strV _, _, rfl, ?_⟩
            show if (!inV (.str x) (scope.map V.str)) = true then _ else _
            rw [in_words]
            rw [if_pos q] at eb
            by_cases qs : x ∈ scope
            · rw [decide_eq_true qs]
              refine iteF ⟨[], rfl, S1, hF1, ?_⟩
              rw [if_pos qs]
              exact .nil
            · rw [decide_eq_false qs]
              refine iteT ⟨_, rfl, .inl ⟨rfl, _, .inl (.inl hF1)⟩, _, rfl, _, rfl, a, its, _, _, rfl, rfl, hs1, hx1.head, rfl, _, rfl, ?_⟩
              rw [eq_name o1]
              rw [if_neg qs, eb]
              have fin : ∀ (z : Str) (t : Addr), H1 t = none → ∃ acc, H F = none ∧ Same H (upd (upd H1 t (.tup [.ref b, .str z])) F (.lst ([] ++ [.ref t]))) ∧ (upd (upd H1 t (.tup [.ref b, .str z])) t (.tup [.ref b, .str z])) t = some (.tup [.ref b, .str z]) ∧ (upd (upd H1 t (.tup [.ref b, .str z])) F (.lst ([] ++ [.ref t]))) F = some (.lst acc) ∧ acc = [.ref t] ∧
                  DpAll K (upd (upd H1 t (.tup [.ref b, .str z])) F (.lst ([] ++ [.ref t]))) acc ((preU pre [([], z)]).map useD) := fun z t ht => by
                have s2 := same_new (o := .tup [.ref b, .str z]) ht
                have hF2 := s2 _ _ hF1
                have ne : t ≠ F := ne_of upd_same hF2 (by intro z; cases z)
                refine ⟨[.ref t], nF, same_put (S1.trans s2) nF, upd_same, upd_same, rfl, ?_⟩
                refine .cons (dp_useD (p := (pre ++ [], z)) (b := b) (.inl (.inl ?_)) ?_) .nil
                · rw [upd_ne ne]
                  exact upd_same
                · rw [List.append_nil]
                  exact sqt_put hF2 (sqt_same (S1.trans s2) hb)
              cases eN : isName h with
              | true =>
                refine iteT ⟨by show 2 ≤ sizeLine; decide, fun t ht => ⟨F, [], _, rfl, rfl, (same_new ht) _ _ hF1, by decide, ?_⟩⟩
                obtain ⟨acc, _, z2, _, z4, z5, z6⟩ := fin "read" t ht
                exact ⟨acc, rfl, z2, z4, z6⟩
              | false =>
                refine iteF ⟨by show 2 ≤ sizeLine; decide, fun t ht => ⟨F, [], _, rfl, rfl, (same_new ht) _ _ hF1, by decide, ?_⟩⟩
                obtain ⟨acc, _, z2, _, z4, z5, z6⟩ := fin "set" t ht
                exact ⟨acc, rfl, z2, z4, z6⟩
          · rw [decide_eq_false q]
            rw [if_neg q] at eb
            refine iteF (iteF ⟨[], rfl, S1, hF1, ?_⟩)
            rw [none0 eb]
            exact .nil
      · clear hF0 s0 hs0 hx0
        rintro σ' H0 ⟨acc, rfl, s0, hF0, ha0⟩
        refine ⟨_, rfl, .ref a, h, Tr.encL ps, rfl, dp_same s0 _ _ hd, by rw [encL_len]; exact o1, flat_encL ps, by rw [encL_len]; omega, fun l us H1 s1 nl hl hu => ?_⟩
        have hul := DpAll.len hu
        have hpl2 : (pairs h (Tr.encL ps)).length = ps.length := by
          unfold pairs bnds
          rw [List.length_map, List.length_zip, List.length_map, List.length_range, encL_len]
          omega
        rw [hpl2] at hul
        refine ⟨l, rfl, ⟨_, .inl (.inl hl)⟩, ?_⟩
        refine for_it (walk_list (xs := us)) (fun i σ H' => ∃ (F : Addr) (acc : List V) (v6 v7 v8 : Option V), σ = [some (.ref a), some (.str x), some (.ref b), some (.ref sc), some (.ref F), some (.int (i : Nat)), v6, v7, v8, none, none] ∧ Same H H' ∧ Same H1 H' ∧ H F = none ∧ H' F = some (.lst acc) ∧
            DpAll K H' acc ((preU pre (if x ∈ scope then [] else baseU x h ++ Tr.usesL x h ps.length 0 (ps.take i))).map useD))
          ⟨F, acc, none, none, none, rfl, s0.trans s1, Same.refl _, nF, s1 _ _ hF0, by
            rw [List.take_zero]
            show DpAll K H1 acc ((preU pre (if x ∈ scope then [] else baseU x h ++ [])).map useD)
            rw [List.append_nil]
            exact dps_same s1 _ _ ha0⟩ (fun i σ H' _ z => ?_) ?_ ?_
        · obtain ⟨_, _, _, _, _, _, _, z, _⟩ := z
          exact .inl (.inl (z _ _ hl))
        · rintro i xv σ H2' H2 hi ⟨F, acc, v6, v7, v8, rfl, s2, s12, nF, hF2, ha2⟩ ⟨rfl, e2⟩
          obtain ⟨d, g1, g2⟩ := DpAll.atV hu e2
          obtain ⟨p, ep, rfl⟩ := map_at g1
          have ez := List.getElem?_zip_eq_some.mp ep
          obtain ⟨c, ec, ecd⟩ := encLat ez.1
          have hin : i < ps.length := (List.getElem?_eq_some_iff.mp ec).1
          have eu := ez.2
          rw [encL_len, under_at hin] at eu
          have eu' := Option.some.inj eu
          obtain ⟨T1, its1, rfl, hT1, hi1⟩ := dp_tup (dp_same s12 _ _ g2)
          obtain ⟨x6, r6, rfl, h1, h2⟩ : ∃ x6 r6, its1 = x6 :: r6 ∧ Dp K H2 x6 p.1 ∧ DpAll K H2 r6 [p.2] := by
            cases hi1 with
            | cons h1 h2 => exact ⟨_, _, rfl, h1, h2⟩
          · obtain ⟨v2, rfl, h3⟩ := dpAll_one h2
            rw [ecd] at h1
            rw [← eu'] at h3
            obtain ⟨qn, rfl, hqn⟩ := encsInv h3
            refine ⟨T1, _, rfl, hT1, rfl, _, _, rfl, _, _, rfl, rfl, ?_⟩
            have hcm : c ∈ ps := List.mem_of_getElem? ec
            have hcs := sizeMem hcm
            obtain ⟨et, hil⟩ := takeNext ec
            have hund := under_len o1 o2 ps.length i
            refine ⟨_, rfl, _, rfl, _, rfl, _, rfl, by show 1 ≤ sizeLine; decide, fun t4 ht4 => ?_⟩
            have s4 := same_new (o := .tup [.int (i : Nat)]) ht4
            refine cat_any (sqt_same (s2.trans s4) hb) (.inl (.inl upd_same)) (by rw [List.length_map]; exact Nat.le_trans (show pre.length + 1 ≤ 2000 by omega) (by decide)) fun t5 H5 s5 ht5 => ?_
            have s45 := s4.trans s5
            have hpre : SqT K H5 t5 ((pre ++ [((i : Nat) : Int)]).map V.int) := by rw [List.map_append]; exact ht5
            refine ⟨_, rfl, _, rfl, ?_⟩
            refine cat_any (sqt_same (s2.trans s45) hsc) (sqt_same s45 hqn) (by rw [List.length_map, List.length_map]; exact Nat.le_trans (show scope.length + (under h ps.length i).length ≤ 200000 by omega) (by decide)) fun t6 H6 s6 ht6 => ?_
            rw [← List.map_append] at ht6
            have s46 := s45.trans s6
            refine ⟨_, x, t5, t6, c, pre ++ [((i : Nat) : Int)], scope ++ under h ps.length i, rfl, dp_same s46 _ _ h1, o3 c hcm, dep_mk.mp hdep c hcm, by omega, sqt_same s6 hpre, by rw [List.length_append, List.length_singleton]; omega, ht6, by rw [List.length_append]; omega, fun l2 ws H7 s7 nl2 hl2 hws => ?_⟩
            have s47 := s46.trans s7
            -- the uses in the part, as they are told
            refine ⟨fun σ' H' => ∃ (x6 : V) (L2 : Addr) (ws2 : List V), σ' = [some (.ref a), some (.str x), some (.ref b), some (.ref sc), some (.ref F), some (.int (i : Nat)), some x6, some (.ref qn), some (.ref L2), none, none] ∧ Same H7 H' ∧ H' L2 = some (.lst ws2) ∧ H2 L2 = none ∧
                DpAll K H' ws2 ((preU pre (if x ∈ scope then [] else if x ∈ under h ps.length i then [] else (c.uses x).map fun p => (((i : Nat) : Int) :: p.1, hw (cal h ps.length i c) p.2))).map useD), ?_, ?_⟩
            · have ein : (if x ∈ scope ++ under h ps.length i then [] else c.uses x) = (if x ∈ scope then [] else if x ∈ under h ps.length i then [] else c.uses x) := by
                by_cases m1 : x ∈ scope
                · rw [if_pos (List.mem_append_left _ m1), if_pos m1]
                · rw [if_neg m1]
                  by_cases m2 : x ∈ under h ps.length i
                  · rw [if_pos (List.mem_append_right _ m2), if_pos m2]
                  · rw [if_neg (fun z => (List.mem_append.mp z).elim m1 m2), if_neg m2]
              rw [ein] at hws
              have S7 := s2.trans s47
              have hs7 := sqt_same S7 hs
              have hx7 := hx.same S7
              -- the same list stays
              have stay : cal h ps.length i c = false → DpAll K H7 ws ((preU pre (if x ∈ scope then [] else if x ∈ under h ps.length i then [] else (c.uses x).map fun p => (((i : Nat) : Int) :: p.1, hw (cal h ps.length i c) p.2))).map useD) := fun e => by
                rw [e]
                have e3 : (preU (pre ++ [((i : Nat) : Int)]) (if x ∈ scope then [] else if x ∈ under h ps.length i then [] else c.uses x)) = preU pre (if x ∈ scope then [] else if x ∈ under h ps.length i then [] else (c.uses x).map fun p => (((i : Nat) : Int) :: p.1, hw false p.2)) := by
                  split
                  · rfl
                  · split
                    · rfl
                    · unfold preU
                      rw [List.map_map]
                      refine List.map_congr_left fun p _ => ?_
                      show ((pre ++ [((i : Nat) : Int)]) ++ p.1, p.2) = (pre ++ (((i : Nat) : Int) :: p.1), p.2)
                      rw [List.append_assoc]
                      rfl
                rw [← e3]
                exact hws
              refine ⟨_, rfl, a, its, _, _, rfl, rfl, hs7, hx7.head, rfl, _, rfl, ?_⟩
              rw [eq_call o1]
              cases eC : isCall h with
              | false => exact iteF (iteF ⟨x6, l2, ws, rfl, Same.refl _, hl2, free_of s46 nl2, stay (by unfold cal; rw [eC]; rfl)⟩)
              | true =>
              refine iteT ⟨_, rfl, rfl, _, rfl, ?_⟩
              show if decide (V.int ((i : Nat) : Int) = V.int 0) = true then _ else _
              rw [dec_int]
              by_cases q0 : i = 0
              · have eq0 : ((((i : Nat) : Int)) == 0) = true := by rw [q0]; rfl
                rw [eq0]
                obtain ⟨hc, psc⟩ := c
                obtain ⟨oc1, oc2, oc3⟩ := okP (o3 _ hcm)
                have h17 := dp_same s47 _ _ h1
                obtain ⟨a6, its6, rfl, hs6, hx6⟩ := view h17
                refine iteT ⟨_, rfl, a6, its6, _, _, rfl, rfl, hs6, hx6.head, rfl, _, rfl, ?_⟩
                rw [eq_name oc1]
                cases eN : isName hc with
                | false => exact iteF (iteF ⟨_, l2, ws, rfl, Same.refl _, hl2, free_of s46 nl2, stay (by unfold cal; show (_ && isName hc) = false; rw [eN, Bool.and_false])⟩)
                | true =>
                cases h with
                | call =>
                  obtain ⟨q, us7, vs7, rfl, hu7, hq7, hv7⟩ := hx7
                  have hvl := DpAll.len hv7
                  rw [List.length_drop, encL_len] at hvl
                  refine iteT ⟨_, rfl, a, _, _, _, rfl, rfl, hs7, by
                    have hul7 := DpAll.len hu7
                    obtain ⟨u0, rfl⟩ := one_of (show us7.length = 1 by rw [hul7, List.length_take, encL_len]; have : 1 ≤ ps.length := o1; omega)
                    exact atI_nat (j := 2) rfl, q, vs7, rfl, .inr hq7, rfl, _, rfl, ?_⟩
                  show if decide (V.int (vs7.length : Nat) = V.int 1) = true then _ else _
                  rw [dec_int]
                  by_cases q1 : ps.length = 2
                  · have eq1 : (((vs7.length : Nat) : Int) == 1) = true := by rw [hvl, q1]; rfl
                    rw [eq1]
                    have ecal : cal .call ps.length i (.mk hc psc) = true := by
                      unfold cal
                      show (true && decide (ps.length = 2) && decide (i = 0) && isName hc) = true
                      rw [q1, q0, eN]
                      rfl
                    refine iteT ⟨_, rfl, l2, rfl, ⟨_, .inl (.inl hl2)⟩, fun L hL => ?_⟩
                    have hwl := DpAll.len hws
                    rw [List.length_map] at hwl
                    have hcl := uses_len x (.mk hc psc)
                    have hcl2 : (preU (pre ++ [((i : Nat) : Int)]) (if x ∈ scope then [] else if x ∈ under .call ps.length i then [] else (Tr.mk hc psc).uses x)).length ≤ 10000 := by
                      unfold preU
                      rw [List.length_map]
                      split
                      · exact Nat.zero_le _
                      · split
                        · exact Nat.zero_le _
                        · omega
                    refine lc_data (K := K) (walk_list (xs := ws)) (fun m => ((preU (pre ++ [((i : Nat) : Int)]) (if x ∈ scope then [] else if x ∈ under .call ps.length i then [] else (Tr.mk hc psc).uses x))[m]?).map fun p => useD (p.1, "called")) hL (by omega) (fun H' s => .inl (.inl (s _ _ hl2))) (fun m _ d e => ?_) ?_ ?_
                    · obtain ⟨p, _, rfl⟩ := Option.map_eq_some_iff.mp e
                      exact flat_useD _
                    · rintro m xw H9 H8 hm s8 ⟨rfl, e7⟩ Q1 Q0 q1 q0
                      obtain ⟨d, g6, g7⟩ := DpAll.atV hws e7
                      obtain ⟨p, ep, rfl⟩ := map_at g6
                      obtain ⟨ta, tp, rfl, hta, htp⟩ := useD_inv (dp_same s8 _ _ g7)
                      refine ⟨ta, _, rfl, hta, rfl, _, _, rfl, _, _, rfl, rfl, rfl, ?_⟩
                      refine ⟨_, rfl, by show 2 ≤ sizeLine; decide, fun t10 ht10 => ?_⟩
                      have s10 := same_new (o := .tup [.ref tp, .str "called"]) ht10
                      exact q1 _ _ (useD (p.1, "called")) (by rw [ep]; rfl) s10 (dp_useD (.inl (.inl upd_same)) (sqt_same s10 htp))
                    · intro H8 acc2 s8 hacc2 ha8
                      rw [hwl, range_map] at ha8
                      refine ⟨_, L, acc2, rfl, s8, hacc2, free_of s47 hL, ?_⟩
                      rw [ecal]
                      have e3 : (preU (pre ++ [((i : Nat) : Int)]) (if x ∈ scope then [] else if x ∈ under .call ps.length i then [] else (Tr.mk hc psc).uses x)).map (fun p => useD (p.1, "called")) =
                          (preU pre (if x ∈ scope then [] else if x ∈ under .call ps.length i then [] else ((Tr.mk hc psc).uses x).map fun p => (((i : Nat) : Int) :: p.1, hw true p.2))).map useD := by
                        split
                        · rfl
                        · split
                          · rfl
                          · unfold preU
                            rw [List.map_map, List.map_map, List.map_map]
                            refine List.map_congr_left fun p _ => ?_
                            show useD ((pre ++ [((i : Nat) : Int)]) ++ p.1, "called") = useD (pre ++ (((i : Nat) : Int) :: p.1), "called")
                            rw [List.append_assoc]
                            rfl
                      rw [← e3]
                      exact ha8
                  · have eq1 : (((vs7.length : Nat) : Int) == 1) = false := by
                      by_cases z : (((vs7.length : Nat) : Int) == 1) = true
                      · exact absurd (by have := eq_of_beq z; omega) q1
                      · exact Bool.eq_false_iff.mpr z
                    rw [eq1]
                    exact iteF ⟨_, l2, ws, rfl, Same.refl _, hl2, free_of s46 nl2, stay (by unfold cal; rw [decide_eq_false q1]; rfl)⟩
                | _ => cases eC
              · have eq0 : ((((i : Nat) : Int)) == 0) = false := by
                  by_cases z : ((((i : Nat) : Int)) == 0) = true
                  · exact absurd (by have := eq_of_beq z; omega) q0
                  · exact Bool.eq_false_iff.mpr z
                rw [eq0]
                exact iteF (iteF ⟨x6, l2, ws, rfl, Same.refl _, hl2, free_of s46 nl2, stay (by unfold cal; rw [decide_eq_false q0, Bool.and_false]; rfl)⟩)
            · rintro σ' H8 ⟨x6, L2, ws2, rfl, s8, hL2, nL2, ha8⟩
              have S8 := s47.trans s8
              have ha2' := dps_same S8 _ _ ha2
              have hal := DpAll.len ha2'
              have hwl := DpAll.len ha8
              have hst := sizesTake ps i
              have n1 : acc.length ≤ 20000 := by
                rw [hal, List.length_map]
                unfold preU
                rw [List.length_map]
                split
                · exact Nat.zero_le _
                · have z1 := baseU_len x h
                  have z2 := usesL_len x h ps.length 0 (ps.take i)
                  rw [List.length_append]
                  omega
              have n2 : ws2.length ≤ 20000 := by
                rw [hwl, List.length_map]
                unfold preU
                rw [List.length_map]
                split
                · exact Nat.zero_le _
                · split
                  · exact Nat.zero_le _
                  · have := uses_len x c
                    rw [List.length_map]
                    omega
              refine ⟨_, rfl, _, rfl, F, L2, acc, ws2, rfl, rfl, S8 _ _ hF2, hL2, Nat.le_trans (show acc.length + ws2.length ≤ 50000 by omega) (by decide), fun F2 hF2' => ?_⟩
              have s9 := same_new (o := .lst (acc ++ ws2)) hF2'
              refine ⟨_, rfl, _, _, rfl, rfl, ?_⟩
              refine ⟨F2, _, _, _, _, rfl, (s2.trans S8).trans s9, (s12.trans S8).trans s9, free_of (s2.trans S8) hF2', upd_same, ?_⟩
              have e9 : preU pre (if x ∈ scope then [] else baseU x h ++ Tr.usesL x h ps.length 0 (ps.take (i + 1))) = preU pre (if x ∈ scope then [] else baseU x h ++ Tr.usesL x h ps.length 0 (ps.take i)) ++ preU pre (if x ∈ scope then [] else if x ∈ under h ps.length i then [] else (c.uses x).map fun p => (((i : Nat) : Int) :: p.1, hw (cal h ps.length i c) p.2)) := by
                rw [et, usesL_snoc, hil, Nat.zero_add]
                by_cases m1 : x ∈ scope
                · rw [if_pos m1, if_pos m1, if_pos m1]; rfl
                · rw [if_neg m1, if_neg m1, if_neg m1, ← List.append_assoc, preU_app]
              rw [e9, List.map_append]
              exact DpAll.app (dps_same s9 _ _ ha2') (dps_same s9 _ _ ha8)
        · rintro σ H2 ⟨F, acc, v6, v7, v8, rfl, s2, s12, nF, hF2, ha2⟩
          rw [List.take_of_length_le (by omega)] at ha2
          exact ⟨_, rfl, k F acc _ s2 nF hF2 ha2⟩
end
end K13

set_option linter.all false
/-! good trees: their winds have three parts, how deep and how large they are; trees without takes, with marked winds -/
namespace Cm
open PySem L2 PySem.Spec PyProof.Rows
def isWind : Hd → Bool
  | .plain w => decide (w = "wind")
  | _ => false
mutual
def Tr.w3 : Tr → Prop
  | .mk h ps => (isWind h = true → ps.length = 3) ∧ Tr.w3s ps
def Tr.w3s : List Tr → Prop
  | [] => True
  | t :: ts => t.w3 ∧ Tr.w3s ts
end
theorem w3s_iff : ∀ {ps : List Tr}, Tr.w3s ps ↔ ∀ t ∈ ps, t.w3
  | [] => by simp [Tr.w3s]
  | t :: ts => by
    show t.w3 ∧ Tr.w3s ts ↔ _
    rw [w3s_iff]
    simp
structure Gd (d n : Nat) (t : Tr) : Prop where
  ok : t.ok
  w3 : t.w3
  dd : t.dd 1 ≤ d
  sz : t.size ≤ n
structure Gds (d n : Nat) (ts : List Tr) : Prop where
  ok : Tr.oks ts
  w3 : Tr.w3s ts
  dd : Tr.dds 1 ts ≤ d
  sz : Tr.sizes ts ≤ n
theorem Gd.mono {d n d' n' : Nat} {t : Tr} (h : Gd d n t) (a : d ≤ d') (b : n ≤ n') : Gd d' n' t := ⟨h.ok, h.w3, Nat.le_trans h.dd a, Nat.le_trans h.sz b⟩
theorem Gds.nil {d : Nat} : Gds d 0 [] := ⟨trivial, trivial, Nat.zero_le _, Nat.zero_le _⟩
theorem Gds.cons {d d1 n m : Nat} {t : Tr} {ts : List Tr} (h : Gd d1 n t) (r : Gds d m ts) (e : d1 ≤ d := by omega) : Gds d (n + m) (t :: ts) :=
  ⟨⟨h.ok, r.ok⟩, ⟨h.w3, r.w3⟩, by
    have h1 := h.dd
    have h2 := r.dd
    show max (t.dd 1) (Tr.dds 1 ts) ≤ d
    omega, by
    have h1 := h.sz
    have h2 := r.sz
    show t.size + Tr.sizes ts ≤ n + m
    omega⟩
theorem Gd.of {h : Hd} {ps : List Tr} {d n : Nat} (g : Gds d n ps) (o : hok h ps.length) (l : ps.length ≤ 11 := by exact Nat.le_of_ble_eq_true rfl) (w : isWind h = true → ps.length = 3 := by intro z; first | rfl | exact absurd z Bool.false_ne_true) : Gd (wt 1 h + d) (n + 1) (.mk h ps) :=
  ⟨⟨o, l, g.ok⟩, ⟨w, g.w3⟩, Nat.add_le_add_left g.dd _, Nat.succ_le_succ g.sz⟩
theorem gd_num (i : Int) : Gd 1 1 (.mk (.num i) []) := Gd.of (h := .num i) (d := 0) (n := 0) .nil rfl
theorem gd_name {x : Str} (h : sok x) : Gd 1 1 (.mk (.name x) []) := Gd.of (h := .name x) (d := 0) (n := 0) .nil ⟨rfl, h⟩
theorem gd_lit {w : Str} (h : w ∈ litW) : Gd 1 1 (.mk (.lit w) []) := Gd.of (h := .lit w) (d := 0) (n := 0) .nil ⟨rfl, h⟩
/-! ### keep in the place of take -/
def noTake : Hd → Hd
  | .one w x => if w = "take" then .one "keep" x else .one w x
  | h => h
mutual
def Tr.nt : Tr → Tr
  | .mk h ps => .mk (noTake h) (Tr.nts ps)
def Tr.nts : List Tr → List Tr
  | [] => []
  | t :: ts => t.nt :: Tr.nts ts
end
theorem nts_map : ∀ ps : List Tr, Tr.nts ps = ps.map Tr.nt
  | [] => rfl
  | t :: ts => by
    show t.nt :: Tr.nts ts = _
    rw [nts_map ts]
    rfl
theorem hok_noTake {h : Hd} {n : Nat} (o : hok h n) : hok (noTake h) n := by
  cases h with
  | one w x =>
    show hok (if w = "take" then .one "keep" x else .one w x) n
    split
    · exact ⟨o.1, by decide, o.2.2⟩
    · exact o
  | _ => exact o
theorem wt_noTake (b : Nat) (h : Hd) : wt b (noTake h) = wt b h := by
  cases h with
  | one w x =>
    show wt b (if w = "take" then .one "keep" x else .one w x) = _
    split <;> rfl
  | _ => rfl
theorem wind_noTake (h : Hd) : isWind (noTake h) = isWind h := by
  cases h with
  | one w x =>
    show isWind (if w = "take" then .one "keep" x else .one w x) = _
    split <;> rfl
  | _ => rfl
mutual
theorem gd_nt : ∀ (t : Tr) {d n : Nat}, Gd d n t → Gd d n t.nt
  | .mk h ps, d, n, g => by
    have o : hok h ps.length ∧ ps.length ≤ 11 ∧ Tr.oks ps := g.ok
    have w : (isWind h = true → ps.length = 3) ∧ Tr.w3s ps := g.w3
    have h1 : wt 1 h + Tr.dds 1 ps ≤ d := g.dd
    have h2 : Tr.sizes ps + 1 ≤ n := g.sz
    have r := gds_nt ps (d := Tr.dds 1 ps) (n := Tr.sizes ps) ⟨o.2.2, w.2, Nat.le_refl _, Nat.le_refl _⟩
    have e : (Tr.nts ps).length = ps.length := by rw [nts_map, List.length_map]
    refine Gd.mono (Gd.of (h := noTake h) r (by rw [e]; exact hok_noTake o.1) (by rw [e]; exact o.2.1) (fun z => by rw [e]; rw [wind_noTake] at z; exact w.1 z)) ?_ h2
    rw [wt_noTake]
    exact h1
theorem gds_nt : ∀ (ts : List Tr) {d n : Nat}, Gds d n ts → Gds d n (Tr.nts ts)
  | [], _, _, g => g
  | t :: ts, d, n, g => by
    have o : t.ok ∧ Tr.oks ts := g.ok
    have w : t.w3 ∧ Tr.w3s ts := g.w3
    have h1 : max (t.dd 1) (Tr.dds 1 ts) ≤ d := g.dd
    have h2 : t.size + Tr.sizes ts ≤ n := g.sz
    have a := gd_nt t (d := d) (n := t.size) ⟨o.1, w.1, by omega, Nat.le_refl _⟩
    have b := gds_nt ts (d := d) (n := n - t.size) ⟨o.2, w.2, by omega, by omega⟩
    have := Gds.cons a b (Nat.le_refl _)
    have e : t.size + (n - t.size) = n := by omega
    rw [e] at this
    exact this
end
/-! ### a mark around the middle of each wind -/
def markMid (h : Hd) (ps : List Tr) : List Tr :=
  if isWind h = true then match ps with
    | [a, b, c] => [a, .mk (.plain "mark") [b], c]
    | ps => ps
  else ps
mutual
def Tr.mw : Tr → Tr
  | .mk h ps => .mk h (markMid h (Tr.mws ps))
def Tr.mws : List Tr → List Tr
  | [] => []
  | t :: ts => t.mw :: Tr.mws ts
end
theorem mws_map : ∀ ps : List Tr, Tr.mws ps = ps.map Tr.mw
  | [] => rfl
  | t :: ts => by
    show t.mw :: Tr.mws ts = _
    rw [mws_map ts]
    rfl
/-- what is left of a good tree with marked winds -/
structure Gm (d n : Nat) (t : Tr) : Prop where
  ok : t.ok
  dd : t.dd 0 ≤ d
  sz : t.size ≤ n
structure Gms (d n : Nat) (ts : List Tr) : Prop where
  ok : Tr.oks ts
  dd : Tr.dds 0 ts ≤ d
  sz : Tr.sizes ts ≤ n
mutual
theorem dd01 : ∀ t : Tr, t.dd 0 ≤ t.dd 1
  | .mk h ps => by
    have h1 := dds01 ps
    have h2 : wt 0 h ≤ wt 1 h := by
      cases h with
      | plain w =>
        show (if w = "wind" then 1 + 0 else 1) ≤ (if w = "wind" then 1 + 1 else 1)
        split <;> omega
      | _ => exact Nat.le_refl _
    show wt 0 h + Tr.dds 0 ps ≤ wt 1 h + Tr.dds 1 ps
    omega
theorem dds01 : ∀ ts : List Tr, Tr.dds 0 ts ≤ Tr.dds 1 ts
  | [] => Nat.le_refl _
  | t :: ts => by
    have h1 := dd01 t
    have h2 := dds01 ts
    show max (t.dd 0) (Tr.dds 0 ts) ≤ max (t.dd 1) (Tr.dds 1 ts)
    omega
end
theorem Gd.gm {d n : Nat} {t : Tr} (g : Gd d n t) : Gm d n t := ⟨g.ok, Nat.le_trans (dd01 t) g.dd, g.sz⟩
mutual
theorem gm_mw : ∀ (t : Tr) {d n : Nat}, Gd d n t → Gm d (2 * n) t.mw
  | .mk h ps, d, n, g => by
    have o : hok h ps.length ∧ ps.length ≤ 11 ∧ Tr.oks ps := g.ok
    have w : (isWind h = true → ps.length = 3) ∧ Tr.w3s ps := g.w3
    have h1 : wt 1 h + Tr.dds 1 ps ≤ d := g.dd
    have h2 : Tr.sizes ps + 1 ≤ n := g.sz
    have r := gms_mw ps (d := Tr.dds 1 ps) (n := Tr.sizes ps) ⟨o.2.2, w.2, Nat.le_refl _, Nat.le_refl _⟩
    have e : (Tr.mws ps).length = ps.length := by rw [mws_map, List.length_map]
    have r1 := r.dd
    have r2 := r.sz
    have r3 := r.ok
    show Gm d (2 * n) (.mk h (markMid h (Tr.mws ps)))
    by_cases z : isWind h = true
    · have l3 := w.1 z
      rw [← e] at l3
      generalize Tr.mws ps = qs at *
      match qs, l3 with
      | [a, b, c], _ =>
        have em : markMid h [a, b, c] = [a, .mk (.plain "mark") [b], c] := by unfold markMid; rw [if_pos z]
        rw [em]
        have e3 : ps.length = 3 := by rw [← e]; rfl
        obtain ⟨oa, ob, oc, _⟩ := r3
        cases h with
        | plain wd =>
          have z' : wd = "wind" := of_decide_eq_true z
          subst z'
          refine ⟨⟨o.1, Nat.le_of_ble_eq_true rfl, oa, ⟨show ("mark" : Str) ∈ plainW by decide, Nat.le_of_ble_eq_true rfl, ob, trivial⟩, oc, trivial⟩, ?_, ?_⟩
          · have r1' : max (a.dd 0) (max (b.dd 0) (max (c.dd 0) 0)) ≤ Tr.dds 1 ps := r1
            have h1' : 1 + 1 + Tr.dds 1 ps ≤ d := h1
            show (1 + 0) + max (a.dd 0) (max (1 + max (b.dd 0) 0) (max (c.dd 0) 0)) ≤ d
            omega
          · have r2' : a.size + (b.size + (c.size + 0)) ≤ 2 * Tr.sizes ps := r2
            show (a.size + ((b.size + 0 + 1) + (c.size + 0))) + 1 ≤ 2 * n
            omega
        | _ => cases z
    · have em : markMid h (Tr.mws ps) = Tr.mws ps := by unfold markMid; rw [if_neg z]
      rw [em]
      have h3 : wt 0 h ≤ wt 1 h := by
        cases h with
        | plain wd =>
          show (if wd = "wind" then 1 + 0 else 1) ≤ (if wd = "wind" then 1 + 1 else 1)
          split <;> omega
        | _ => exact Nat.le_refl _
      refine ⟨⟨by rw [e]; exact o.1, by rw [e]; exact o.2.1, r3⟩, ?_, ?_⟩
      · show wt 0 h + Tr.dds 0 (Tr.mws ps) ≤ d
        omega
      · show Tr.sizes (Tr.mws ps) + 1 ≤ 2 * n
        omega
theorem gms_mw : ∀ (ts : List Tr) {d n : Nat}, Gds d n ts → Gms d (2 * n) (Tr.mws ts)
  | [], _, _, g => ⟨trivial, Nat.zero_le _, Nat.zero_le _⟩
  | t :: ts, d, n, g => by
    have o : t.ok ∧ Tr.oks ts := g.ok
    have w : t.w3 ∧ Tr.w3s ts := g.w3
    have h1 : max (t.dd 1) (Tr.dds 1 ts) ≤ d := g.dd
    have h2 : t.size + Tr.sizes ts ≤ n := g.sz
    have a := gm_mw t (d := d) (n := t.size) ⟨o.1, w.1, by omega, Nat.le_refl _⟩
    have b := gms_mw ts (d := d) (n := n - t.size) ⟨o.2, w.2, by omega, by omega⟩
    refine ⟨⟨a.ok, b.ok⟩, ?_, ?_⟩
    · have := a.dd
      have := b.dd
      show max (t.mw.dd 0) (Tr.dds 0 (Tr.mws ts)) ≤ d
      omega
    · have := a.sz
      have := b.sz
      show t.mw.size + Tr.sizes (Tr.mws ts) ≤ 2 * n
      omega
end
end Cm

namespace K13
open PySem L2 Cm
/-- a tree that is made anew -/
def spMapT (K : PySem.W.Frag) (F : Tr → Tr) (n : Nat) : Sp := fun vs H Q _ => ∃ (v : V) (t : Tr) (d m : Nat), vs = [v] ∧ Dp K H v t.enc ∧ Gd d m t ∧ t.dep ≤ n ∧
  ∀ (r : V) (H' : Hp), Same H H' → Dp K H' r (F t).enc → Q r H'
def isTake : Hd → Bool
  | .one w _ => decide (w = "take")
  | _ => false
theorem eq_take {h : Hd} {n : Nat} (o : hok h n) : decide (V.str (wd h) = V.str "take") = isTake h := by
  have other : kd h ≠ 3 → decide (wd h = "take") = false := fun q => by
    have key : ∀ c < 10, c ≠ 3 → ∀ w ∈ Cm.wordsOf c, decide (w = ("take" : Str)) = false := by decide +kernel
    exact key _ (wd_mem o).1 q _ (wd_mem o).2
  rw [decS]
  cases h with
  | one w x => rfl
  | num i => exact other (Nat.ne_of_beq_eq_false rfl)
  | name i => exact other (Nat.ne_of_beq_eq_false rfl)
  | lit i => exact other (Nat.ne_of_beq_eq_false rfl)
  | fn i => exact other (Nat.ne_of_beq_eq_false rfl)
  | bind i _ => exact other (Nat.ne_of_beq_eq_false rfl)
  | doo => exact other (Nat.ne_of_beq_eq_false rfl)
  | call => exact other (Nat.ne_of_beq_eq_false rfl)
  | op i => exact other (Nat.ne_of_beq_eq_false rfl)
  | plain i => exact other (Nat.ne_of_beq_eq_false rfl)
theorem eq_wind {h : Hd} {n : Nat} (o : hok h n) : decide (V.str (wd h) = V.str "wind") = isWind h := by
  have other : kd h ≠ 9 → decide (wd h = "wind") = false := fun q => by
    have key : ∀ c < 10, c ≠ 9 → ∀ w ∈ Cm.wordsOf c, decide (w = ("wind" : Str)) = false := by decide +kernel
    exact key _ (wd_mem o).1 q _ (wd_mem o).2
  rw [decS]
  cases h with
  | plain w => rfl
  | num i => exact other (Nat.ne_of_beq_eq_false rfl)
  | name i => exact other (Nat.ne_of_beq_eq_false rfl)
  | lit i => exact other (Nat.ne_of_beq_eq_false rfl)
  | fn i => exact other (Nat.ne_of_beq_eq_false rfl)
  | bind i _ => exact other (Nat.ne_of_beq_eq_false rfl)
  | doo => exact other (Nat.ne_of_beq_eq_false rfl)
  | call => exact other (Nat.ne_of_beq_eq_false rfl)
  | op i => exact other (Nat.ne_of_beq_eq_false rfl)
  | one i _ => exact other (Nat.ne_of_beq_eq_false rfl)
section
variable {P : Program} {w : World} {K : PySem.W.Frag} {mg : Str → Option Value} {base : Heap}
abbrev s_l_without_takes : Stmt := top 15
abbrev N_l_without_takes : List Str := ["_law_tree", "_law_parts_here", "_law_part", "_law_names", "_law_done"]
theorem sc_l_without_takes : FnScope N_l_without_takes ["_law_tree"] (defScope s_l_without_takes) := ⟨rfl, rfl, rfl, by decide +kernel, rfl, by decide +kernel, by decide +kernel⟩
theorem ok_l_without_takes (T : Txt mg) (c_l_parts : Cl P w K mg base 1 "_law_parts" (spPairs K)) (c_l_remade : Cl P w K mg base 1 "_law_remade" (spRemade K)) (D : At K mg "_law_without_takes" s_l_without_takes ["_law_tree"]) : ∀ n, Cl P w K mg base (n + 2) "_law_without_takes" (spMapT K Tr.nt n) := by
  intro n
  induction n with
  | zero =>
    refine cl_of (k := 1) D sc_l_without_takes (fun vs H Q E h => ?_) fun f cdv A outer s H vs Q E hr h => ?_
    · obtain ⟨v, t, d, m, rfl, _⟩ := h
      rfl
    · obtain ⟨v, t, d, m, _, _, _, z, _⟩ := h
      cases t with
      | mk hd ps => exact absurd z (by show ¬ (Tr.deps ps + 1 ≤ 0); omega)
  | succ n ih =>
    refine cl_of (k := n + 2) D sc_l_without_takes (fun vs H Q E h => ?_) fun f cdv A outer s H vs Q E hr h => ?_
    · obtain ⟨v, t, d, m, rfl, _⟩ := h
      rfl
    · obtain ⟨v, t, d, m, rfl, hd, g, hdep, k⟩ := h
      cases t with
      | mk h ps =>
      obtain ⟨o1, o2, o3⟩ := okP g.ok
      have w3 : (isWind h = true → ps.length = 3) ∧ Tr.w3s ps := g.w3
      refine ⟨_, (pss_cons (ps_setLc (i := 1) (own := [("_law_part", 2), ("_law_names", 3)]) (g := gTup K 2 (gCons (gName 2) (gCons (gName 3) gNil))) rfl sc_l_without_takes.nd rfl rfl (sw_true rfl rfl rfl (by decide +kernel)) (pi_list (pe_c c_l_parts hr (by omega) (by rfl) (pa_cons (pv 0) pa_nil))) (blkOk_by (N := N_l_without_takes) (sc := defScope s_l_without_takes) (by decide +kernel))
      (fun _ _ _ _ _ => (pg_tup rfl (pgs_cons (pg_name (i := 2) sc_l_without_takes.nd rfl (Or.inl rfl)) (pgs_cons (pg_name (i := 3) sc_l_without_takes.nd rfl (Or.inl rfl)) pgs_nil))))
      (fun _ _ _ _ _ => pts_nil)
      (fun _ _ _ _ _ => (pe_c ih hr (by omega) (by rfl) (pa_cons (pv 2) pa_nil))))
      (pss_cons (ps_set (i := 4) sc_l_without_takes.nd rfl (Or.inl rfl) (pe_c c_l_remade hr (by omega) (by rfl) (pa_cons (pv 0) (pa_cons (pv 1) pa_nil))))
      (pss_one (ps_ret (pe_ifExp (pt_cmpR op_eq (pe_ix ix_tup (pv 4) pe_int (fun _ _ => rfl)) pe_str (nomark _)) (pe_tup (pa_cons pe_str (pa_cons (pe_ix ix_tup (pv 4) pe_int (fun _ _ => rfl)) (pa_cons (pe_ix ix_tup (pv 4) pe_int (fun _ _ => rfl)) pa_nil)))) (pv 4)))))), ?_⟩
      refine ⟨_, rfl, v, h, Tr.encL ps, rfl, hd, by rw [encL_len]; exact o1, flat_encL ps, by rw [encL_len]; omega, fun l us H1 s1 nl hl hu => ?_⟩
      have hul := DpAll.len hu
      have hpl2 : (pairs h (Tr.encL ps)).length = ps.length := by
        unfold pairs bnds
        rw [List.length_map, List.length_zip, List.length_map, List.length_range, encL_len]
        omega
      rw [hpl2] at hul
      refine ⟨l, rfl, ⟨_, .inl (.inl hl)⟩, fun L hL => ?_⟩
      refine lc_data (K := K) (walk_list (xs := us)) (fun i => (ps[i]?).map fun c => c.nt.enc) hL (by omega) (fun H' s => .inl (.inl (s _ _ hl))) (fun i _ d e => ?_) ?_ ?_
      · obtain ⟨c, _, rfl⟩ := Option.map_eq_some_iff.mp e
        exact flat_enc _
      · rintro i xv H3 H2 hi s2 ⟨rfl, e2⟩ Q1 Q0 q1 q0
        obtain ⟨d', g1, g2⟩ := DpAll.atV hu e2
        obtain ⟨p, ep, rfl⟩ := map_at g1
        have ez := List.getElem?_zip_eq_some.mp ep
        obtain ⟨c, ec, ecd⟩ := encLat ez.1
        obtain ⟨T1, its1, rfl, hT1, hi1⟩ := dp_tup (dp_same s2 _ _ g2)
        cases hi1 with
        | cons h1 h2 =>
          obtain ⟨v2, rfl, h3⟩ := dpAll_one h2
          rw [ecd] at h1
          have hcm : c ∈ ps := List.mem_of_getElem? ec
          refine ⟨T1, _, rfl, hT1, rfl, _, _, rfl, _, _, rfl, rfl, rfl, ?_⟩
          refine ⟨_, rfl, _, c, c.dd 1, c.size, rfl, h1, ⟨o3 c hcm, w3s_iff.mp w3.2 c hcm, Nat.le_refl _, Nat.le_refl _⟩, dep_mk.mp hdep c hcm, fun r H4 s4 hr4 => ?_⟩
          exact q1 _ _ _ (by rw [ec]; rfl) s4 hr4
      · intro H3 acc s3 hacc ha3
        rw [hul, range_map] at ha3
        have ea : ps.map (fun c => c.nt.enc) = Tr.encL (Tr.nts ps) := by rw [encL_map, nts_map, List.map_map]; rfl
        rw [ea] at ha3
        have en : (Tr.nts ps).length = ps.length := by rw [nts_map, List.length_map]
        refine ⟨_, rfl, _, rfl, v, L, h, Tr.encL ps, Tr.encL (Tr.nts ps), acc, rfl, dp_same (s1.trans s3) _ _ hd, by rw [encL_len]; exact o1, by rw [encL_len, encL_len, en], by rw [encL_len, en]; omega, flat_encL _, .inl (.inl hacc), ha3, fun r H4 s4 hr4 => ?_⟩
        obtain ⟨a, its, rfl, hs, hx⟩ := view hr4
        refine ⟨_, rfl, a, its, _, _, rfl, rfl, hs, hx.head, rfl, _, rfl, ?_⟩
        rw [eq_take o1]
        have S4 := (s1.trans s3).trans s4
        cases eT : isTake h with
        | true =>
          cases h with
          | one wd' x =>
            obtain ⟨vs, rfl, hv⟩ := hx
            have hwt : wd' = "take" := of_decide_eq_true eT
            have hvl := DpAll.len hv
            rw [encL_len, en] at hvl
            obtain ⟨u, rfl⟩ := one_of (hvl.trans o1.1)
            refine iteT ⟨_, rfl, a, _, _, _, rfl, rfl, hs, atI_nat (j := 1) rfl, _, rfl, a, _, _, _, rfl, rfl, hs, atI_nat (j := 2) rfl, by show 3 ≤ sizeLine; decide, fun t ht => ?_⟩
            have s5 := same_new (o := .tup [.str "keep", .str x, u]) ht
            have e9 : (Tr.mk (.one wd' x) ps).nt = .mk (.one "keep" x) (Tr.nts ps) := by
              show Tr.mk (if wd' = "take" then .one "keep" x else .one wd' x) (Tr.nts ps) = _
              rw [if_pos hwt]
            refine k _ _ (S4.trans s5) ?_
            rw [e9]
            exact unview (h := .one "keep" x) (.inl (.inl upd_same)) ⟨[u], rfl, dps_same s5 _ _ hv⟩
          | _ => cases eT
        | false =>
          refine iteF ⟨_, rfl, k _ _ S4 ?_⟩
          have e9 : noTake h = h := by
            cases h with
            | one wd' x => exact if_neg (of_decide_eq_false eT)
            | _ => rfl
          show Dp K H4 _ (encH (noTake h) (Tr.encL (Tr.nts ps)))
          rw [e9]
          exact hr4
abbrev s_l_marked_winds : Stmt := top 16
abbrev N_l_marked_winds : List Str := ["_law_tree", "_law_parts_here", "_law_part", "_law_names", "_law_done"]
theorem sc_l_marked_winds : FnScope N_l_marked_winds ["_law_tree"] (defScope s_l_marked_winds) := ⟨rfl, rfl, rfl, by decide +kernel, rfl, by decide +kernel, by decide +kernel⟩
theorem ok_l_marked_winds (T : Txt mg) (c_l_parts : Cl P w K mg base 1 "_law_parts" (spPairs K)) (c_l_remade : Cl P w K mg base 1 "_law_remade" (spRemade K)) (D : At K mg "_law_marked_winds" s_l_marked_winds ["_law_tree"]) : ∀ n, Cl P w K mg base (n + 2) "_law_marked_winds" (spMapT K Tr.mw n) := by
  intro n
  induction n with
  | zero =>
    refine cl_of (k := 1) D sc_l_marked_winds (fun vs H Q E h => ?_) fun f cdv A outer s H vs Q E hr h => ?_
    · obtain ⟨v, t, d, m, rfl, _⟩ := h
      rfl
    · obtain ⟨v, t, d, m, _, _, _, z, _⟩ := h
      cases t with
      | mk hd ps => exact absurd z (by show ¬ (Tr.deps ps + 1 ≤ 0); omega)
  | succ n ih =>
    refine cl_of (k := n + 2) D sc_l_marked_winds (fun vs H Q E h => ?_) fun f cdv A outer s H vs Q E hr h => ?_
    · obtain ⟨v, t, d, m, rfl, _⟩ := h
      rfl
    · obtain ⟨v, t, d, m, rfl, hd, g, hdep, k⟩ := h
      cases t with
      | mk h ps =>
      obtain ⟨o1, o2, o3⟩ := okP g.ok
      have w3 : (isWind h = true → ps.length = 3) ∧ Tr.w3s ps := g.w3
      refine ⟨_, (pss_cons (ps_setLc (i := 1) (own := [("_law_part", 2), ("_law_names", 3)]) (g := gTup K 2 (gCons (gName 2) (gCons (gName 3) gNil))) rfl sc_l_marked_winds.nd rfl rfl (sw_true rfl rfl rfl (by decide +kernel)) (pi_list (pe_c c_l_parts hr (by omega) (by rfl) (pa_cons (pv 0) pa_nil))) (blkOk_by (N := N_l_marked_winds) (sc := defScope s_l_marked_winds) (by decide +kernel))
      (fun _ _ _ _ _ => (pg_tup rfl (pgs_cons (pg_name (i := 2) sc_l_marked_winds.nd rfl (Or.inl rfl)) (pgs_cons (pg_name (i := 3) sc_l_marked_winds.nd rfl (Or.inl rfl)) pgs_nil))))
      (fun _ _ _ _ _ => pts_nil)
      (fun _ _ _ _ _ => (pe_c ih hr (by omega) (by rfl) (pa_cons (pv 2) pa_nil))))
      (pss_cons (ps_set (i := 4) sc_l_marked_winds.nd rfl (Or.inl rfl) (pe_c c_l_remade hr (by omega) (by rfl) (pa_cons (pv 0) (pa_cons (pv 1) pa_nil))))
      (pss_one (ps_ret (pe_ifExp (pt_cmpR op_eq (pe_ix ix_tup (pv 4) pe_int (fun _ _ => rfl)) pe_str (nomark _)) (pe_tup (pa_cons pe_str (pa_cons (pe_ix ix_tup (pv 4) pe_int (fun _ _ => rfl)) (pa_cons (pe_tup (pa_cons pe_str (pa_cons (pe_ix ix_tup (pv 4) pe_int (fun _ _ => rfl)) pa_nil))) (pa_cons (pe_ix ix_tup (pv 4) pe_int (fun _ _ => rfl)) pa_nil))))) (pv 4)))))), ?_⟩
      refine ⟨_, rfl, v, h, Tr.encL ps, rfl, hd, by rw [encL_len]; exact o1, flat_encL ps, by rw [encL_len]; omega, fun l us H1 s1 nl hl hu => ?_⟩
      have hul := DpAll.len hu
      have hpl2 : (pairs h (Tr.encL ps)).length = ps.length := by
        unfold pairs bnds
        rw [List.length_map, List.length_zip, List.length_map, List.length_range, encL_len]
        omega
      rw [hpl2] at hul
      refine ⟨l, rfl, ⟨_, .inl (.inl hl)⟩, fun L hL => ?_⟩
      refine lc_data (K := K) (walk_list (xs := us)) (fun i => (ps[i]?).map fun c => c.mw.enc) hL (by omega) (fun H' s => .inl (.inl (s _ _ hl))) (fun i _ d e => ?_) ?_ ?_
      · obtain ⟨c, _, rfl⟩ := Option.map_eq_some_iff.mp e
        exact flat_enc _
      · rintro i xv H3 H2 hi s2 ⟨rfl, e2⟩ Q1 Q0 q1 q0
        obtain ⟨d', g1, g2⟩ := DpAll.atV hu e2
        obtain ⟨p, ep, rfl⟩ := map_at g1
        have ez := List.getElem?_zip_eq_some.mp ep
        obtain ⟨c, ec, ecd⟩ := encLat ez.1
        obtain ⟨T1, its1, rfl, hT1, hi1⟩ := dp_tup (dp_same s2 _ _ g2)
        cases hi1 with
        | cons h1 h2 =>
          obtain ⟨v2, rfl, h3⟩ := dpAll_one h2
          rw [ecd] at h1
          have hcm : c ∈ ps := List.mem_of_getElem? ec
          refine ⟨T1, _, rfl, hT1, rfl, _, _, rfl, _, _, rfl, rfl, rfl, ?_⟩
          refine ⟨_, rfl, _, c, c.dd 1, c.size, rfl, h1, ⟨o3 c hcm, w3s_iff.mp w3.2 c hcm, Nat.le_refl _, Nat.le_refl _⟩, dep_mk.mp hdep c hcm, fun r H4 s4 hr4 => ?_⟩
          exact q1 _ _ _ (by rw [ec]; rfl) s4 hr4
      · intro H3 acc s3 hacc ha3
        rw [hul, range_map] at ha3
        have ea : ps.map (fun c => c.mw.enc) = Tr.encL (Tr.mws ps) := by rw [encL_map, mws_map, List.map_map]; rfl
        rw [ea] at ha3
        have en : (Tr.mws ps).length = ps.length := by rw [mws_map, List.length_map]
        refine ⟨_, rfl, _, rfl, v, L, h, Tr.encL ps, Tr.encL (Tr.mws ps), acc, rfl, dp_same (s1.trans s3) _ _ hd, by rw [encL_len]; exact o1, by rw [encL_len, encL_len, en], by rw [encL_len, en]; omega, flat_encL _, .inl (.inl hacc), ha3, fun r H4 s4 hr4 => ?_⟩
        obtain ⟨a, its, rfl, hs, hx⟩ := view hr4
        refine ⟨_, rfl, a, its, _, _, rfl, rfl, hs, hx.head, rfl, _, rfl, ?_⟩
        rw [eq_wind o1]
        have S4 := (s1.trans s3).trans s4
        cases eT : isWind h with
        | true =>
          cases h with
          | plain wd' =>
            obtain ⟨vs, rfl, hv⟩ := hx
            have hwt : wd' = "wind" := of_decide_eq_true eT
            subst hwt
            have h3 := w3.1 eT
            rw [← en] at h3
            have e9 : (Tr.mk (.plain "wind") ps).mw = .mk (.plain "wind") (markMid (.plain "wind") (Tr.mws ps)) := rfl
            rw [e9] at k
            generalize Tr.mws ps = qs at *
            match qs, h3 with
            | [qa, qb, qc], _ =>
              have hv' : DpAll K H4 vs [qa.enc, qb.enc, qc.enc] := hv
              obtain ⟨ua, ub, uc, rfl, da, db, dc⟩ : ∃ ua ub uc, vs = [ua, ub, uc] ∧ Dp K H4 ua qa.enc ∧ Dp K H4 ub qb.enc ∧ Dp K H4 uc qc.enc := by
                cases hv' with
                | cons x1 r1 => cases r1 with
                  | cons x2 r2 => cases r2 with
                    | cons x3 r3 =>
                      cases r3
                      exact ⟨_, _, _, rfl, x1, x2, x3⟩
              refine iteT ⟨_, rfl, a, _, _, _, rfl, rfl, hs, atI_nat (j := 1) rfl, _, rfl, a, _, _, _, rfl, rfl, hs, atI_nat (j := 2) rfl, by show 2 ≤ sizeLine; decide, fun t ht => ?_⟩
              have s5 := same_new (o := .tup [.str "mark", ub]) ht
              refine ⟨_, rfl, a, _, _, _, rfl, rfl, sqt_same s5 hs, atI_nat (j := 3) rfl, by show 4 ≤ sizeLine; decide, fun t2 ht2 => ?_⟩
              have s6 := same_new (o := .tup [.str "wind", ua, .ref t, uc]) ht2
              have s56 := s5.trans s6
              refine k _ _ (S4.trans s56) ?_
              have em : markMid (.plain "wind") [qa, qb, qc] = [qa, .mk (.plain "mark") [qb], qc] := if_pos rfl
              rw [em]
              refine unview (h := .plain "wind") (.inl (.inl upd_same)) ⟨[ua, .ref t, uc], rfl, .cons (dp_same s56 _ _ da) (.cons ?_ (.cons (dp_same s56 _ _ dc) .nil))⟩
              exact unview (h := .plain "mark") (ds := [qb.enc]) (.inl (.inl (s6 _ _ upd_same))) ⟨[ub], rfl, .cons (dp_same s56 _ _ db) .nil⟩
          | _ => cases eT
        | false =>
          refine iteF ⟨_, rfl, k _ _ S4 ?_⟩
          have e9 : markMid h (Tr.mws ps) = Tr.mws ps := if_neg (by rw [eT]; exact Bool.false_ne_true)
          show Dp K H4 _ (encH h (Tr.encL (markMid h (Tr.mws ps))))
          rw [e9]
          exact hr4
end
end K13

set_option linter.all false
/-! drawn trees: promises -/
namespace Cm
open PySem L2 PySem.Spec PyProof.Rows
theorem DpAll.some {K : PySem.W.Frag} {H : Hp} {v : V} : ∀ {vs : List V} {ds : List PyData}, DpAll K H vs ds → v ∈ vs → ∃ d, d ∈ ds ∧ Dp K H v d
  | _, _, .nil, m => by cases m
  | _, _, .cons a b, m => by
    rcases List.mem_cons.mp m with rfl | m
    · exact ⟨_, List.mem_cons_self, a⟩
    · obtain ⟨d, hm, hd⟩ := DpAll.some b m
      exact ⟨d, List.mem_cons_of_mem _ hm, hd⟩
theorem pick_of {K : PySem.W.Frag} {H : Hp} {h c : Addr} {v : V} {ds : List PyData} {Q : VK} {E : XK} (hh : Hand H h c) (hd : Dp K H v (.tuple ds)) (fl : flatDs ds = true) (n0 : ds ≠ []) (hl : ds.length ≤ 1000)
    (k : ∀ v' H' d, d ∈ ds → Kh h H H' → Hand H' h c → Dp K H' v' d → Q v' H') : spPick K [.ref h, v] H Q E := by
  obtain ⟨a, its, rfl, hs, hi⟩ := dp_tup hd
  have e := DpAll.len hi
  refine ⟨h, c, a, its, rfl, hh, .inr hs, ?_, by omega, fun v' H' m kh hh' => ?_⟩
  · intro z
    subst z
    cases hi
    exact n0 rfl
  · obtain ⟨d, m2, d2⟩ := DpAll.some hi m
    exact k v' H' d m2 kh hh' (dp_keep (fun _ _ q => kh.tup q) _ _ (flatDs_all fl d m2) d2)
/-- a drawn tree -/
def spGenT (K : PySem.W.Frag) (d n : Nat) : Sp := fun vs H Q _ => ∃ h c : Addr, vs = [.ref h] ∧ Hand H h c ∧ ∀ (v : V) (t : Tr) (H' : Hp), Kh h H H' → Hand H' h c → Dp K H' v t.enc → Gd d n t → Q v H'
/-- what a drawn part is -/
def IntS (d : PyData) : Prop := ∃ i : Int, d = .int i
def WordS (ws : List Str) (d : PyData) : Prop := ∃ w ∈ ws, d = .str w
def TreeS (d n : Nat) (e : PyData) : Prop := ∃ t : Tr, e = t.enc ∧ Gd d n t
theorem ex_draw {h c : Addr} {σ : L2.St} {H : Hp} {m : Int} {Q : VK} (h0 : σ[0]? = some (some (.ref h))) (hh : Hand H h c) (m0 : 0 < m := by decide) (m1 : m < 2 ^ 100 := by decide)
    (k : ∀ (n : Int) (H' : Hp), 0 ≤ n → n < m → Kh h H H' → Hand H' h c → Q (.int n) H') : tCall spDraw [] E0 (tCons (tVar 0) (tCons (tC (.int m)) tNil)) σ H Q :=
  ⟨_, h0, h, c, m, rfl, hh, m0, m1, k⟩
theorem ex_gen {K : PySem.W.Frag} {d n : Nat} {h c : Addr} {σ : L2.St} {H : Hp} {Q : VK} (h0 : σ[0]? = some (some (.ref h))) (hh : Hand H h c)
    (k : ∀ (v : V) (t : Tr) (H' : Hp), Kh h H H' → Hand H' h c → Dp K H' v t.enc → Gd d n t → Q v H') : tCall (spGenT K d n) [] E0 (tCons (tVar 0) tNil) σ H Q :=
  ⟨_, h0, h, c, rfl, hh, k⟩
/-- pick out of a display without drawn parts -/
theorem ex_pick {K : PySem.W.Frag} {h c : Addr} {σ : L2.St} {H : Hp} {ds : List GX} {Q : VK} (ρ : Nat → PyData) (h0 : σ[0]? = some (some (.ref h))) (hh : Hand H h c) (hf : HasF K ρ σ H (GX.slotss ds)) (he : GX.exss ds = []) (n0 : ds ≠ []) (hl : ds.length ≤ 1000)
    (k : ∀ v' H' d, d ∈ GX.datas ρ (fun _ => .int 0) ds → Kh h H H' → Hand H' h c → flatD d = true → Dp K H' v' d → Q v' H') : tCall (spPick K) [] E0 (tCons (tVar 0) (tCons (tG K (.tup ds)) tNil)) σ H Q := by
  refine ⟨_, h0, h, c, ρ, fun _ _ => True, hh, hf, ?_, fun v H1 τ kh hh1 _ ft dp => ?_⟩
  · show AllE K h c (fun _ _ => True) σ H (GX.exss ds)
    rw [he]
    trivial
  · have ed : GX.datas ρ τ ds = GX.datas ρ (fun _ => .int 0) ds := datas_eq ds (by rw [he]; intro n m; cases m)
    have fl : flatDs (GX.datas ρ τ ds) = true := flat_gdatas ds hf ft
    have dp' : Dp K H1 v (.tuple (GX.datas ρ τ ds)) := dp
    rw [ed] at dp' fl
    refine pick_of (E := E0) hh1 dp' fl ?_ (by rw [gdatas_len]; exact hl) fun v' H' d m kh' hh' dd => k v' H' d m (kh.trans kh') hh' (flatDs_all fl d m) dd
    intro z
    have := congrArg List.length z
    rw [gdatas_len] at this
    exact n0 (List.length_eq_zero_iff.mp this)
theorem Gd.cons {d d1 n m : Nat} {t : Tr} {ts : List Tr} (h : Gd d1 n t) (r : Gds d m ts) (e : d1 ≤ d := by omega) : Gds d (n + m) (t :: ts) := Gds.cons h r e
theorem gd_op {o : Str} {d n : Nat} {ps : List Tr} (so : sok o) (g : Gds d n ps) (l : ps.length ≤ 11 := by exact Nat.le_of_ble_eq_true rfl) : Gd (2 + d) (n + 1) (.mk (.op o) ps) := Gd.of (h := .op o) g so l
theorem gd_do {d n : Nat} {ps : List Tr} (g : Gds d n ps) (l : ps.length ≤ 11 := by exact Nat.le_of_ble_eq_true rfl) : Gd (2 + d) (n + 1) (.mk .doo ps) := Gd.of (h := .doo) g True.intro l
theorem gd_call {d n : Nat} {t : Tr} {ps : List Tr} (g : Gds d n (t :: ps)) (l : (t :: ps).length ≤ 11 := by exact Nat.le_of_ble_eq_true rfl) : Gd (2 + d) (n + 1) (.mk .call (t :: ps)) := Gd.of (h := .call) g (Nat.succ_le_succ (Nat.zero_le _)) l
theorem gd_fn {d n : Nat} {xs : List Str} {b : Tr} (hx : ∀ x ∈ xs, sok x) (g : Gd d n b) (l : xs.length ≤ 100 := by exact Nat.le_of_ble_eq_true rfl) : Gd (1 + d) (n + 1) (.mk (.fn xs) [b]) := Gd.of (h := .fn xs) (g.cons Gds.nil (Nat.le_refl _)) ⟨rfl, l, hx⟩
theorem gd_one {d n : Nat} {w x : Str} {b : Tr} (hw : w ∈ oneW) (hx : sok x) (g : Gd d n b) : Gd (1 + d) (n + 1) (.mk (.one w x) [b]) := Gd.of (h := .one w x) (g.cons Gds.nil (Nat.le_refl _)) ⟨rfl, hw, hx⟩
theorem gd_bind {d n : Nat} {w : Str} {xs : List Str} {ps : List Tr} (hw : w ∈ bindW) (hx : ∀ x ∈ xs, sok x) (g : Gds d n ps) (e : ps.length = xs.length + 1 := by rfl) (l : ps.length ≤ 11 := by exact Nat.le_of_ble_eq_true rfl) : Gd (3 + d) (n + 1) (.mk (.bind w xs) ps) := Gd.of (h := .bind w xs) g ⟨e, hw, hx⟩ l
theorem gd_plain {d n : Nat} {w : Str} {ps : List Tr} (hw : w ∈ plainW) (nw : isWind (.plain w) = false) (g : Gds d n ps) (l : ps.length ≤ 11 := by exact Nat.le_of_ble_eq_true rfl) : Gd (1 + d) (n + 1) (.mk (.plain w) ps) := by
  have := Gd.of (h := .plain w) g hw l (fun z => by rw [nw] at z; cases z)
  have e : wt 1 (.plain w) = 1 := if_neg (of_decide_eq_false nw)
  rw [e] at this
  exact this
theorem gd_show {d n : Nat} {b : Tr} (g : Gd d n b) : Gd (1 + d) (n + 1) (.mk (.plain "show") [b]) := gd_plain (by decide) (by decide +kernel) (g.cons Gds.nil (Nat.le_refl _))
theorem gd_mark {d n : Nat} {b : Tr} (g : Gd d n b) : Gd (1 + d) (n + 1) (.mk (.plain "mark") [b]) := gd_plain (by decide) (by decide +kernel) (g.cons Gds.nil (Nat.le_refl _))
theorem gd_if {d n : Nat} {ps : List Tr} (g : Gds d n ps) (l : ps.length ≤ 11 := by exact Nat.le_of_ble_eq_true rfl) : Gd (1 + d) (n + 1) (.mk (.plain "if") ps) := gd_plain (by decide) (by decide +kernel) g l
theorem gd_wind {d n : Nat} {a b c : Tr} (g : Gds d n [a, b, c]) : Gd (2 + d) (n + 1) (.mk (.plain "wind") [a, b, c]) := Gd.of (h := .plain "wind") g (show ("wind" : Str) ∈ plainW by decide) (w := fun _ => rfl)
theorem mvT {K : PySem.W.Frag} {h : Addr} {H H' : Hp} {v : V} {t : Tr} (kh : Kh h H H') (d : Dp K H v t.enc) : Dp K H' v t.enc := dp_keep (fun _ _ q => kh.tup q) _ _ (flat_enc t) d
/-- a display without drawn parts -/
theorem tg_pure {K : PySem.W.Frag} {h c : Addr} {σ : L2.St} {H : Hp} {d : GX} {Q : VK} (ρ : Nat → PyData) (hh : Hand H h c) (hf : HasF K ρ σ H d.slots) (he : d.exs = [])
    (k : ∀ v H', Kh h H H' → Hand H' h c → Dp K H' v (d.data ρ (fun _ => .int 0)) → Q v H') : tG K d σ H Q := by
  refine ⟨h, c, ρ, fun _ _ => True, hh, hf, ?_, fun v H' τ kh hh' _ _ dp => ?_⟩
  · rw [he]
    trivial
  · rw [data_eq (τ' := fun _ => .int 0) d (by rw [he]; intro n m; cases m)] at dp
    exact k v H' kh hh' dp
/-- a tree grown out of a tree, a name and a number -/
def spMore (K : PySem.W.Frag) : Sp := fun vs H Q _ => ∃ (h c : Addr) (v : V) (x : Str) (p : Int) (s : Tr) (d n : Nat), vs = [.ref h, v, .str x, .int p] ∧ Hand H h c ∧ Dp K H v s.enc ∧ Gd d n s ∧ 7 ≤ d ∧ sok x ∧
  ∀ (u : V) (t : Tr) (H' : Hp), Kh h H H' → Hand H' h c → Dp K H' u t.enc → Gd (6 + d) (n + 30) t → Q u H'
theorem words_of {ρ τ : Nat → PyData} {d : PyData} : ∀ {ws : List Str}, d ∈ GX.datas ρ τ (ws.map GX.str) → WordS ws d
  | w :: ws, m => by
    have m' : d ∈ PyData.str w :: GX.datas ρ τ (ws.map GX.str) := m
    rcases List.mem_cons.mp m' with rfl | m'
    · exact ⟨w, List.mem_cons_self, rfl⟩
    · obtain ⟨x, hx, e⟩ := words_of m'
      exact ⟨x, List.mem_cons_of_mem _ hx, e⟩
theorem trees_of {d n : Nat} {e : PyData} : ∀ {ts : List Tr}, e ∈ ts.map Tr.enc → (∀ t ∈ ts, Gd d n t) → TreeS d n e := fun m g => by
  obtain ⟨t, ht, rfl⟩ := List.mem_map.mp m
  exact ⟨t, rfl, g t ht⟩
theorem all_nil {α : Type} {P : α → Prop} : ∀ x ∈ ([] : List α), P x := fun x m => by cases m
theorem all_cons {α : Type} {P : α → Prop} {a : α} {l : List α} (h : P a) (r : ∀ x ∈ l, P x) : ∀ x ∈ a :: l, P x := fun x m => by
  rcases List.mem_cons.mp m with rfl | m
  · exact h
  · exact r x m
theorem iteIeq {n m : Int} {A B : Prop} (h : n = m) (a : A) : if decide (V.int n = V.int m) = true then A else B := by
  rw [dec_int, h, beq_self_eq_true]
  exact iteT a
theorem iteIne {n m : Int} {A B : Prop} (h : ¬ n = m) (b : B) : if decide (V.int n = V.int m) = true then A else B := by
  rw [dec_int, beq_eq_false_iff_ne.mpr h]
  exact iteF b
theorem Gm.mono {d n d' n' : Nat} {t : Tr} (h : Gm d n t) (a : d ≤ d') (b : n ≤ n') : Gm d' n' t := ⟨h.ok, Nat.le_trans h.dd a, Nat.le_trans h.sz b⟩
theorem gms0 {d : Nat} : Gms d 0 [] := ⟨trivial, Nat.zero_le _, Nat.zero_le _⟩
theorem Gms.cons {d1 d2 n m : Nat} {t : Tr} {ts : List Tr} (h : Gm d1 n t) (r : Gms d2 m ts) : Gms (max d1 d2) (n + m) (t :: ts) :=
  ⟨⟨h.ok, r.ok⟩, by
    have h1 := h.dd
    have h2 := r.dd
    show max (t.dd 0) (Tr.dds 0 ts) ≤ max d1 d2
    omega, by
    have h1 := h.sz
    have h2 := r.sz
    show t.size + Tr.sizes ts ≤ n + m
    omega⟩
theorem gms1 {d n : Nat} {t : Tr} (h : Gm d n t) : Gms d n [t] := by
  have := Gms.cons h (gms0 (d := d))
  rw [Nat.max_self] at this
  exact this
theorem gms2 {d1 d2 n m : Nat} {t u : Tr} (h : Gm d1 n t) (r : Gm d2 m u) : Gms (max d1 d2) (n + m) [t, u] := Gms.cons h (gms1 r)
theorem Gm.gms3 {d1 d2 d3 n m k : Nat} {t u v : Tr} (h : Gm d1 n t) (r : Gm d2 m u) (q : Gm d3 k v) : Gms (max d1 (max d2 d3)) (n + (m + k)) [t, u, v] := Gms.cons h (gms2 r q)
theorem gm_of {d d' n n' : Nat} {h : Hd} {ps : List Tr} (g : Gms d n ps) (o : hok h ps.length) (a : wt 0 h + d ≤ d') (b : n + 1 ≤ n') (l : ps.length ≤ 11 := by exact Nat.le_of_ble_eq_true rfl) : Gm d' n' (.mk h ps) := by
  refine ⟨⟨o, l, g.ok⟩, ?_, ?_⟩
  · have := g.dd
    show wt 0 h + Tr.dds 0 ps ≤ d'
    omega
  · have := g.sz
    show Tr.sizes ps + 1 ≤ n'
    omega
theorem gm_op {d n : Nat} {o : Str} {ps : List Tr} (so : sok o) (g : Gms d n ps) (l : ps.length ≤ 11 := by exact Nat.le_of_ble_eq_true rfl) : Gm (2 + d) (n + 1) (.mk (.op o) ps) := gm_of g so (Nat.le_refl _) (Nat.le_refl _) l
end Cm

namespace K13
open PySem L2 Cm
section
variable {P : Program} {w : World} {K : PySem.W.Frag} {mg : Str → Option Value} {base : Heap}
abbrev s_l_some_literal : Stmt := top 17
abbrev N_l_some_literal : List Str := ["_law_hand_here", "_law_pick_here"]
theorem sc_l_some_literal : FnScope N_l_some_literal ["_law_hand_here"] (defScope s_l_some_literal) := ⟨rfl, rfl, rfl, by decide +kernel, rfl, by decide +kernel, by decide +kernel⟩
theorem ok_l_some_literal (T : Txt mg) (c_l_draw : Cl P w K mg base 2 "_law_draw" spDraw) (D : At K mg "_law_some_literal" s_l_some_literal ["_law_hand_here"]) : Cl P w K mg base 3 "_law_some_literal" (spGenT K 1 1) := by
  refine cl_of D sc_l_some_literal (fun vs H Q E h => ?_) fun f cdv A outer s H vs Q E hr h => ?_
  · obtain ⟨h, c, rfl, _⟩ := h
    rfl
  · obtain ⟨h, c, rfl, hh, k⟩ := h
    refine ⟨_, (pss_cons (ps_set (i := 1) sc_l_some_literal.nd rfl (Or.inl rfl) (pe_c c_l_draw hr (by decide) (by rfl) (pa_cons (pv 0) (pa_cons pe_int pa_nil))))
      (pss_cons (ps_if (pt_cmpR op_lt (pv 1) pe_int (nomark _))
        (pss_one (ps_ret (pgx_tup (K := K) (pgx_cons pgx_str (pgx_cons (pgx_ex 0 (pe_op op_sub (pe_c c_l_draw hr (by decide) (by rfl) (pa_cons (pv 0) (pa_cons pe_int pa_nil))) pe_int)) pgx_nil)))))
        pss_nil)
      (pss_one (ps_ret (pe_ix ix_tup (pgx_tup (K := K) (pgx_cons (pgx_tup (K := K) (pgx_cons pgx_str pgx_nil)) (pgx_cons (pgx_tup (K := K) (pgx_cons pgx_str pgx_nil)) (pgx_cons (pgx_tup (K := K) (pgx_cons pgx_str pgx_nil)) pgx_nil)))) (pe_op op_sub (pv 1) pe_int) (fun _ _ => rfl)))))), ?_⟩
    refine ex_draw rfl hh (by decide) (by decide) fun n H1 n0 n1 kh1 hh1 => ?_
    refine ⟨_, rfl, _, _, rfl, rfl, _, rfl, ?_⟩
    by_cases q : n < 5
    · rw [decide_eq_true q]
      refine iteT ⟨h, c, fun _ => .int 0, fun _ => IntS, hh1, True.intro, And.intro (fun H2 kh2 hh2 => ex_draw rfl hh2 (by decide) (by decide) fun m H3 _ _ kh3 hh3 => ⟨_, _, rfl, rfl, kh3, hh3, _, ⟨_, rfl⟩, rfl, .int _⟩) True.intro, fun v H2 τ kh2 hh2 als ft dp => ?_⟩
      obtain ⟨⟨i, ei⟩, _⟩ := als
      have dp' : Dp K H2 v (.tuple [.str "number", τ 0]) := dp
      have ei' : τ 0 = .int i := ei
      rw [ei'] at dp'
      exact k v (.mk (.num i) []) H2 (kh1.trans kh2) hh2 dp' (gd_num i)
    · rw [decide_eq_false q]
      refine iteF ⟨h, c, fun _ => .int 0, fun _ => IntS, hh1, True.intro, True.intro, fun v H2 τ kh2 hh2 als ft dp => ?_⟩
      have dp' : Dp K H2 v (.tuple [.tuple [.str "true"], .tuple [.str "false"], .tuple [.str "none"]]) := dp
      obtain ⟨a, its, rfl, hs, hi⟩ := dp_tup dp'
      have hl := DpAll.len hi
      obtain ⟨j, ej, hj⟩ : ∃ j : Nat, n - 5 = (j : Int) ∧ j < 3 := ⟨(n - 5).toNat, by omega, by omega⟩
      have hj' : j < its.length := by rw [hl]; exact hj
      have ev := List.getElem?_eq_getElem hj'
      obtain ⟨d, g1, g2⟩ := DpAll.atV hi ev
      refine ⟨_, rfl, _, _, rfl, rfl, a, its, _, _, rfl, rfl, hs, by rw [ej]; exact atI_nat ev, ?_⟩
      match j, hj, g1 with
      | 0, _, e => cases e; exact k _ (.mk (.lit "true") []) H2 (kh1.trans kh2) hh2 g2 (gd_lit (by decide))
      | 1, _, e => cases e; exact k _ (.mk (.lit "false") []) H2 (kh1.trans kh2) hh2 g2 (gd_lit (by decide))
      | 2, _, e => cases e; exact k _ (.mk (.lit "none") []) H2 (kh1.trans kh2) hh2 g2 (gd_lit (by decide))
abbrev s_l_some_calm : Stmt := top 18
abbrev N_l_some_calm : List Str := ["_law_hand_here", "_law_pick_here"]
theorem sc_l_some_calm : FnScope N_l_some_calm ["_law_hand_here"] (defScope s_l_some_calm) := ⟨rfl, rfl, rfl, by decide +kernel, rfl, by decide +kernel, by decide +kernel⟩
theorem ok_l_some_calm (T : Txt mg) (c_l_draw : Cl P w K mg base 2 "_law_draw" spDraw) (c_l_pick : Cl P w K mg base 3 "_law_pick" (spPick K)) (c_l_some_literal : Cl P w K mg base 3 "_law_some_literal" (spGenT K 1 1)) (D : At K mg "_law_some_calm" s_l_some_calm ["_law_hand_here"]) : Cl P w K mg base 4 "_law_some_calm" (spGenT K 5 4) := by
  refine cl_of D sc_l_some_calm (fun vs H Q E h => ?_) fun f cdv A outer s H vs Q E hr h => ?_
  · obtain ⟨h, c, rfl, _⟩ := h
    rfl
  · obtain ⟨h, c, rfl, hh, k⟩ := h
    refine ⟨_, (pss_cons (ps_set (i := 1) sc_l_some_calm.nd rfl (Or.inl rfl) (pe_c c_l_draw hr (by decide) (by rfl) (pa_cons (pv 0) (pa_cons pe_int pa_nil))))
      (pss_cons (ps_if (pt_cmpR op_eq (pv 1) pe_int (nomark _))
        (pss_one (ps_ret (pgx_tup (K := K) (pgx_cons pgx_str (pgx_cons (pgx_ex 0 (pe_c c_l_pick hr (by decide) (by rfl) (pa_cons (pv 0) (pa_cons (pgx_tup (K := K) (pgx_cons pgx_str (pgx_cons pgx_str (pgx_cons pgx_str (pgx_cons pgx_str pgx_nil))))) pa_nil)))) (pgx_cons (pgx_tup (K := K) (pgx_cons (pgx_ex 1 (pe_c c_l_pick hr (by decide) (by rfl) (pa_cons (pv 0) (pa_cons (pgx_tup (K := K) (pgx_cons (pgx_tup (K := K) (pgx_cons pgx_str (pgx_cons pgx_str pgx_nil))) (pgx_cons (pgx_tup (K := K) (pgx_cons pgx_str (pgx_cons pgx_str pgx_nil))) pgx_nil))) pa_nil)))) pgx_nil)) pgx_nil))))))
        pss_nil)
      (pss_cons (ps_if (pt_cmpR op_eq (pv 1) pe_int (nomark _))
        (pss_one (ps_ret (pgx_tup (K := K) (pgx_cons pgx_str (pgx_cons (pgx_ex 0 (pe_c c_l_pick hr (by decide) (by rfl) (pa_cons (pv 0) (pa_cons (pgx_tup (K := K) (pgx_cons pgx_str (pgx_cons pgx_str pgx_nil))) pa_nil)))) (pgx_cons (pgx_tup (K := K) (pgx_cons (pgx_tup (K := K) (pgx_cons pgx_str (pgx_cons pgx_str (pgx_cons (pgx_tup (K := K) (pgx_cons (pgx_tup (K := K) (pgx_cons pgx_str (pgx_cons pgx_str pgx_nil))) (pgx_cons (pgx_tup (K := K) (pgx_cons pgx_str (pgx_cons pgx_int pgx_nil))) pgx_nil))) pgx_nil)))) pgx_nil)) pgx_nil))))))
        pss_nil)
      (pss_cons (ps_if (pt_cmpR op_eq (pv 1) pe_int (nomark _))
        (pss_one (ps_ret (pgx_tup (K := K) (pgx_cons pgx_str (pgx_cons pgx_str (pgx_cons (pgx_tup (K := K) (pgx_cons (pgx_tup (K := K) (pgx_cons pgx_str (pgx_cons pgx_str pgx_nil))) (pgx_cons (pgx_ex 0 (pe_c c_l_pick hr (by decide) (by rfl) (pa_cons (pv 0) (pa_cons (pgx_tup (K := K) (pgx_cons (pgx_tup (K := K) (pgx_cons pgx_str (pgx_cons pgx_str pgx_nil))) (pgx_cons (pgx_tup (K := K) (pgx_cons pgx_str (pgx_cons pgx_str (pgx_cons (pgx_tup (K := K) (pgx_cons (pgx_tup (K := K) (pgx_cons pgx_str (pgx_cons pgx_str pgx_nil))) pgx_nil)) pgx_nil)))) (pgx_cons (pgx_tup (K := K) (pgx_cons pgx_str pgx_nil)) pgx_nil)))) pa_nil)))) pgx_nil))) pgx_nil))))))
        pss_nil)
      (pss_cons (ps_if (pt_cmpR op_eq (pv 1) pe_int (nomark _))
        (pss_one (ps_ret (pgx_tup (K := K) (pgx_cons pgx_str (pgx_cons (pgx_ex 0 (pe_c c_l_pick hr (by decide) (by rfl) (pa_cons (pv 0) (pa_cons (pgx_tup (K := K) (pgx_cons pgx_str (pgx_cons pgx_str (pgx_cons pgx_str pgx_nil)))) pa_nil)))) pgx_nil)))))
        pss_nil)
      (pss_cons (ps_if (pt_cmpR op_eq (pv 1) pe_int (nomark _))
        (pss_one (ps_ret (pgx_tup (K := K) (pgx_cons pgx_str (pgx_cons (pgx_tup (K := K) pgx_nil) (pgx_cons (pgx_tup (K := K) (pgx_cons pgx_str (pgx_cons (pgx_tup (K := K) (pgx_cons pgx_str (pgx_cons pgx_int pgx_nil))) pgx_nil))) pgx_nil))))))
        pss_nil)
      (pss_cons (ps_if (pt_cmpR op_eq (pv 1) pe_int (nomark _))
        (pss_one (ps_ret (pgx_tup (K := K) (pgx_cons pgx_str (pgx_cons pgx_str (pgx_cons (pgx_tup (K := K) (pgx_cons (pgx_ex 0 (pe_c c_l_some_literal hr (by decide) (by rfl) (pa_cons (pv 0) pa_nil))) (pgx_cons (pgx_tup (K := K) (pgx_cons pgx_str (pgx_cons pgx_str pgx_nil))) pgx_nil))) pgx_nil))))))
        pss_nil)
      (pss_one (ps_ret (pe_c c_l_some_literal hr (by decide) (by rfl) (pa_cons (pv 0) pa_nil))))))))))), ?_⟩
    refine ex_draw rfl hh (by decide) (by decide) fun n H1 n0 n1 kh1 hh1 => ?_
    refine ⟨_, rfl, rfl, _, rfl, ?_⟩
    have sk : sok "k" := by decide +kernel
    have sn : sok "n" := by decide +kernel
    have sp : sok "p" := by decide +kernel
    have sj : sok "j" := by decide +kernel
    by_cases q : n = 6
    · refine iteIeq q ⟨h, c, fun _ => .int 0, fun | 0 => WordS ["none?", "fun?", "rest?", "pair?"] | _ => TreeS 1 1, hh1, True.intro, And.intro (fun H2 kh2 hh2 => ?_) (And.intro (fun H2 kh2 hh2 => ?_) True.intro), fun v H2 τ kh2 hh2 als ft dp => ?_⟩
      · exact ex_pick (fun _ => .int 0) rfl hh2 True.intro rfl (by intro z; cases z) (by decide) fun v' H' d m kh' hh' f dd => ⟨kh', hh', d, words_of (ws := ["none?", "fun?", "rest?", "pair?"]) m, f, dd⟩
      · exact ex_pick (fun _ => .int 0) rfl hh2 True.intro rfl (by intro z; cases z) (by decide) fun v' H' d m kh' hh' f dd => ⟨kh', hh', d, trees_of (ts := [.mk (.name "k") [], .mk (.name "n") []]) m (all_cons (gd_name sk) (all_cons (gd_name sn) all_nil)), f, dd⟩
      · obtain ⟨⟨w, hw, e0⟩, ⟨t, e1, g⟩, _⟩ := als
        have dp' : Dp K H2 v (.tuple [.str "op", τ 0, .tuple [τ 1]]) := dp
        rw [show τ 0 = .str w from e0, show τ 1 = t.enc from e1] at dp'
        have sw : ∀ w ∈ (["none?", "fun?", "rest?", "pair?"] : List Str), sok w := by decide +kernel
        exact k v (.mk (.op w) [t]) H2 (kh1.trans kh2) hh2 dp' ((gd_op (d := 1) (sw w hw) (g.cons Gds.nil)).mono (by omega) (by omega))
    refine iteIne q ⟨_, rfl, rfl, _, rfl, ?_⟩
    by_cases q : n = 7
    · refine iteIeq q ⟨h, c, fun _ => .int 0, fun _ => WordS ["left", "right"], hh1, True.intro, And.intro (fun H2 kh2 hh2 => ?_) True.intro, fun v H2 τ kh2 hh2 als ft dp => ?_⟩
      · exact ex_pick (fun _ => .int 0) rfl hh2 True.intro rfl (by intro z; cases z) (by decide) fun v' H' d m kh' hh' f dd => ⟨kh', hh', d, words_of (ws := ["left", "right"]) m, f, dd⟩
      · obtain ⟨⟨w, hw, e0⟩, _⟩ := als
        have dp' : Dp K H2 v (.tuple [.str "op", τ 0, .tuple [(Tr.mk (.op "pair") [.mk (.name "n") [], .mk (.num 3) []]).enc]]) := dp
        rw [show τ 0 = .str w from e0] at dp'
        have sw : ∀ w ∈ (["left", "right"] : List Str), sok w := by decide +kernel
        have g1 : Gd 3 3 (.mk (.op "pair") [.mk (.name "n") [], .mk (.num 3) []]) := gd_op (d := 1) (by decide +kernel) ((gd_name sn).cons ((gd_num 3).cons Gds.nil))
        exact k v (.mk (.op w) [.mk (.op "pair") [.mk (.name "n") [], .mk (.num 3) []]]) H2 (kh1.trans kh2) hh2 dp' ((gd_op (d := 3) (sw w hw) (g1.cons Gds.nil)).mono (by omega) (by omega))
    refine iteIne q ⟨_, rfl, rfl, _, rfl, ?_⟩
    by_cases q : n = 8
    · have g1 : Gd 3 2 (.mk (.op "left") [.mk (.name "p") []]) := gd_op (d := 1) (by decide +kernel) ((gd_name sp).cons Gds.nil)
      refine iteIeq q ⟨h, c, fun _ => .int 0, fun _ => TreeS 3 2, hh1, True.intro, And.intro (fun H2 kh2 hh2 => ?_) True.intro, fun v H2 τ kh2 hh2 als ft dp => ?_⟩
      · exact ex_pick (fun _ => .int 0) rfl hh2 True.intro rfl (by intro z; cases z) (by decide) fun v' H' d m kh' hh' f dd => ⟨kh', hh', d, trees_of (ts := [.mk (.name "j") [], .mk (.op "left") [.mk (.name "p") []], .mk (.lit "ask") []]) m (all_cons ((gd_name sj).mono (by omega) (by omega)) (all_cons g1 (all_cons ((gd_lit (by decide)).mono (by omega) (by omega)) all_nil))), f, dd⟩
      · obtain ⟨⟨t, e0, g⟩, _⟩ := als
        have dp' : Dp K H2 v (.tuple [.str "op", .str "same?", .tuple [(Tr.mk (.name "k") []).enc, τ 0]]) := dp
        rw [show τ 0 = t.enc from e0] at dp'
        exact k v (.mk (.op "same?") [.mk (.name "k") [], t]) H2 (kh1.trans kh2) hh2 dp' ((gd_op (d := 3) (by decide +kernel) ((gd_name sk).cons (g.cons Gds.nil))).mono (by omega) (by omega))
    refine iteIne q ⟨_, rfl, rfl, _, rfl, ?_⟩
    by_cases q : n = 0
    · refine iteIeq q ⟨h, c, fun _ => .int 0, fun _ => WordS ["k", "n", "p"], hh1, True.intro, And.intro (fun H2 kh2 hh2 => ?_) True.intro, fun v H2 τ kh2 hh2 als ft dp => ?_⟩
      · exact ex_pick (fun _ => .int 0) rfl hh2 True.intro rfl (by intro z; cases z) (by decide) fun v' H' d m kh' hh' f dd => ⟨kh', hh', d, words_of (ws := ["k", "n", "p"]) m, f, dd⟩
      · obtain ⟨⟨w, hw, e0⟩, _⟩ := als
        have dp' : Dp K H2 v (.tuple [.str "name", τ 0]) := dp
        rw [show τ 0 = .str w from e0] at dp'
        have sw : ∀ w ∈ (["k", "n", "p"] : List Str), sok w := by decide +kernel
        exact k v (.mk (.name w) []) H2 (kh1.trans kh2) hh2 dp' ((gd_name (sw w hw)).mono (by omega) (by omega))
    refine iteIne q ⟨_, rfl, rfl, _, rfl, ?_⟩
    by_cases q : n = 1
    · refine iteIeq q ⟨h, c, fun _ => .int 0, fun _ _ => True, hh1, True.intro, True.intro, fun v H2 τ kh2 hh2 als ft dp => ?_⟩
      have g1 : Gd 2 2 (.mk (.plain "show") [.mk (.num 9) []]) := gd_show (gd_num 9)
      exact k v (.mk (.fn []) [.mk (.plain "show") [.mk (.num 9) []]]) H2 (kh1.trans kh2) hh2 dp ((gd_fn all_nil g1).mono (by omega) (by omega))
    refine iteIne q ⟨_, rfl, rfl, _, rfl, ?_⟩
    by_cases q : n = 2
    · refine iteIeq q ⟨h, c, fun _ => .int 0, fun _ => TreeS 1 1, hh1, True.intro, And.intro (fun H2 kh2 hh2 => ?_) True.intro, fun v H2 τ kh2 hh2 als ft dp => ?_⟩
      · exact ex_gen rfl hh2 fun v' t H' kh' hh' dd g => ⟨kh', hh', t.enc, ⟨t, rfl, g⟩, flat_enc t, dd⟩
      · obtain ⟨⟨t, e0, g⟩, _⟩ := als
        have dp' : Dp K H2 v (.tuple [.str "op", .str "pair", .tuple [τ 0, (Tr.mk (.name "n") []).enc]]) := dp
        rw [show τ 0 = t.enc from e0] at dp'
        exact k v (.mk (.op "pair") [t, .mk (.name "n") []]) H2 (kh1.trans kh2) hh2 dp' ((gd_op (d := 1) (by decide +kernel) (g.cons ((gd_name sn).cons Gds.nil))).mono (by omega) (by omega))
    exact iteIne q (ex_gen rfl hh1 fun v' t H' kh' hh' dd g => k v' t H' (kh1.trans kh') hh' dd (g.mono (by omega) (by omega)))
end
end K13

namespace K13
open PySem L2 Cm
def opW : List Str := ["+", "-", "*", "quot", "rem", "<", "=", "same?", "none?", "pair?", "rest?", "fun?"]
theorem opW_sok : ∀ w ∈ opW, sok w := by decide +kernel
/-- a tree that counts on -/
def spCount (K : PySem.W.Frag) : Sp := fun vs H Q _ => ∃ (h c : Addr) (m : Int) (v1 v2 : V) (t1 t2 : Tr) (d1 d2 n1 n2 : Nat), vs = [.int m, v1, v2] ∧ Hand H h c ∧ Dp K H v1 t1.enc ∧ Dp K H v2 t2.enc ∧ Gd d1 n1 t1 ∧ Gd d2 n2 t2 ∧ d1 ≤ 4 ∧ d2 ≤ 4 ∧
  ∀ (v : V) (t : Tr) (H' : Hp), Kh h H H' → Hand H' h c → Dp K H' v t.enc → Gd 7 (9 + n1 + n2) t → Q v H'
/-- a tree out of a tree and a name -/
def spNest (K : PySem.W.Frag) : Sp := fun vs H Q _ => ∃ (h c : Addr) (v : V) (x : Str) (s : Tr) (d n : Nat), vs = [.ref h, v, .str x] ∧ Hand H h c ∧ Dp K H v s.enc ∧ Gm d n s ∧ 1 ≤ d ∧ sok x ∧
  ∀ (v' : V) (t : Tr) (H' : Hp), Kh h H H' → Hand H' h c → Dp K H' v' t.enc → Gm (5 + d) (2 * n + 6) t → Q v' H'
section
variable {P : Program} {w : World} {K : PySem.W.Frag} {mg : Str → Option Value} {base : Heap}
theorem ints_some {ds : List PyData} {d : PyData} (h : ∀ d ∈ ds, IntS d) (m : d ∈ ds) : IntS d := h d m
theorem ints_flat {ds : List PyData} (h : ∀ d ∈ ds, IntS d) : flatDs ds = true := flatDs_of _ fun d m => by
  obtain ⟨i, rfl⟩ := h d m
  rfl
abbrev s_l_some_op : Stmt := top 19
abbrev N_l_some_op : List Str := ["_law_hand_here", "_law_word", "_law_first", "_law_ends"]
theorem sc_l_some_op : FnScope N_l_some_op ["_law_hand_here"] (defScope s_l_some_op) := ⟨rfl, rfl, rfl, by decide +kernel, rfl, by decide +kernel, by decide +kernel⟩
theorem ok_l_some_op (T : Txt mg) (c_l_draw : Cl P w K mg base 2 "_law_draw" spDraw) (c_l_pick : Cl P w K mg base 3 "_law_pick" (spPick K)) (c_l_some_literal : Cl P w K mg base 3 "_law_some_literal" (spGenT K 1 1)) (D : At K mg "_law_some_op" s_l_some_op ["_law_hand_here"]) : Cl P w K mg base 4 "_law_some_op" (spGenT K 3 3) := by
  refine cl_of D sc_l_some_op (fun vs H Q E h => ?_) fun f cdv A outer s H vs Q E hr h => ?_
  · obtain ⟨h, c, rfl, _⟩ := h
    rfl
  · obtain ⟨h, c, rfl, hh, k⟩ := h
    refine ⟨_, (pss_cons (ps_set (i := 1) sc_l_some_op.nd rfl (Or.inl rfl) (pe_c c_l_pick hr (by decide) (by rfl) (pa_cons (pv 0) (pa_cons (pgx_tup (K := K) (pgx_cons pgx_str (pgx_cons pgx_str (pgx_cons pgx_str (pgx_cons pgx_str (pgx_cons pgx_str (pgx_cons pgx_str (pgx_cons pgx_str (pgx_cons pgx_str (pgx_cons pgx_str (pgx_cons pgx_str (pgx_cons pgx_str (pgx_cons pgx_str pgx_nil))))))))))))) pa_nil))))
      (pss_cons (ps_set (i := 2) sc_l_some_op.nd rfl (Or.inl rfl) (pe_c c_l_some_literal hr (by decide) (by rfl) (pa_cons (pv 0) pa_nil)))
      (pss_cons (ps_if (pt_inW (pv 1) (.cons (.cons (.cons (.cons .nil)))) (show 4 ≤ sizeLine by decide) (by rfl))
        (pss_one (ps_ret (pgx_tup (K := K) (pgx_cons pgx_str (pgx_cons (pgx_slot (pv 1)) (pgx_cons (pgx_tup (K := K) (pgx_cons (pgx_slot (pv 2)) pgx_nil)) pgx_nil))))))
        pss_nil)
      (pss_cons (ps_if (pt_cmpR op_eq (pe_c c_l_draw hr (by decide) (by rfl) (pa_cons (pv 0) (pa_cons pe_int pa_nil))) pe_int (nomark _))
        (pss_cons (ps_set (i := 3) sc_l_some_op.nd rfl (Or.inl rfl) (pgx_tup (K := K) (pgx_cons (pgx_ex 0 (pe_op op_pow pe_int pe_int)) (pgx_cons (pgx_ex 1 (pe_un un_neg (pe_op op_pow pe_int pe_int))) (pgx_cons (pgx_ex 2 (pe_op op_sub (pe_op op_pow pe_int pe_int) pe_int)) (pgx_cons pgx_int (pgx_cons pgx_int (pgx_cons pgx_int (pgx_cons (pgx_ex 3 (pe_un un_neg pe_int)) (pgx_cons pgx_int pgx_nil))))))))))
        (pss_one (ps_ret (pgx_tup (K := K) (pgx_cons pgx_str (pgx_cons (pgx_slot (pv 1)) (pgx_cons (pgx_tup (K := K) (pgx_cons (pgx_tup (K := K) (pgx_cons pgx_str (pgx_cons (pgx_ex 0 (pe_c c_l_pick hr (by decide) (by rfl) (pa_cons (pv 0) (pa_cons (pv 3) pa_nil)))) pgx_nil))) (pgx_cons (pgx_tup (K := K) (pgx_cons pgx_str (pgx_cons (pgx_ex 1 (pe_c c_l_pick hr (by decide) (by rfl) (pa_cons (pv 0) (pa_cons (pe_op op_catA (pv 3) (pgx_tup (K := K) (pgx_cons pgx_int (pgx_cons (pgx_ex 0 (pe_un un_neg pe_int)) pgx_nil)))) pa_nil)))) pgx_nil))) pgx_nil))) pgx_nil)))))))
        pss_nil)
      (pss_one (ps_ret (pgx_tup (K := K) (pgx_cons pgx_str (pgx_cons (pgx_slot (pv 1)) (pgx_cons (pgx_tup (K := K) (pgx_cons (pgx_slot (pv 2)) (pgx_cons (pgx_ex 0 (pe_c c_l_some_literal hr (by decide) (by rfl) (pa_cons (pv 0) pa_nil))) pgx_nil))) pgx_nil)))))))))), ?_⟩
    refine ex_pick (fun _ => .int 0) rfl hh True.intro rfl (by intro z; cases z) (by decide) fun v1 H1 d1 m1 kh1 hh1 _ dd1 => ?_
    obtain ⟨w, hw, rfl⟩ := words_of (ws := opW) m1
    obtain rfl := dp_str dd1
    refine ex_gen rfl hh1 fun v2 t H2 kh2 hh2 dt g => ?_
    have kh02 := kh1.trans kh2
    refine ⟨_, rfl, rfl, fun H3 s3 => ?_⟩
    have kh3 := kh02.trans (hh2.kh s3)
    have hh3 := hh2.same s3
    have dt3 := dp_same s3 _ _ dt
    by_cases q : w ∈ (["none?", "pair?", "rest?", "fun?"] : List Str)
    · refine iteIn q ⟨h, c, fun | 1 => .str w | _ => t.enc, fun _ _ => True, hh3, And.intro ⟨_, rfl, .str w, rfl⟩ (And.intro ⟨_, rfl, dt3, flat_enc t⟩ True.intro), True.intro, fun v H4 τ kh4 hh4 _ ft dp => ?_⟩
      exact k v (.mk (.op w) [t]) H4 (kh3.trans kh4) hh4 dp ((gd_op (opW_sok w hw) (g.cons Gds.nil (d := 1))).mono (by omega) (by omega))
    refine iteNi q ?_
    refine ex_draw rfl hh3 (by decide) (by decide) fun n H4 n0 n1 kh4 hh4 => ?_
    refine ⟨rfl, _, rfl, ?_⟩
    have kh04 := kh3.trans kh4
    have dt4 := dp_keep (fun _ _ q => kh4.tup q) _ _ (flat_enc t) dt3
    by_cases q2 : n = 0
    · refine iteIeq q2 ⟨h, c, fun _ => .int 0, fun _ => IntS, hh4, True.intro, And.intro (fun H5 kh5 hh5 => ⟨_, _, rfl, rfl, ⟨by decide, by decide, by decide⟩, hh5.kr, hh5, _, ⟨_, rfl⟩, rfl, .int _⟩) (And.intro (fun H5 kh5 hh5 => ⟨_, _, rfl, rfl, ⟨by decide, by decide, by decide⟩, _, rfl, hh5.kr, hh5, _, ⟨_, rfl⟩, rfl, .int _⟩) (And.intro (fun H5 kh5 hh5 => ⟨_, _, rfl, rfl, ⟨by decide, by decide, by decide⟩, _, _, rfl, rfl, hh5.kr, hh5, _, ⟨_, rfl⟩, rfl, .int _⟩) (And.intro (fun H5 kh5 hh5 => ⟨_, rfl, hh5.kr, hh5, _, ⟨_, rfl⟩, rfl, .int _⟩) True.intro))), fun v3 H5 τ kh5 hh5 als ft dp => ?_⟩
      have dpe : Dp K H5 v3 (.tuple [τ 0, τ 1, τ 2, .int 31622, .int 31623, .int 100000, τ 3, .int 2]) := dp
      obtain ⟨a0, a1, a2, a3, _⟩ := als
      have allI : ∀ d ∈ [τ 0, τ 1, τ 2, .int 31622, .int 31623, .int 100000, τ 3, .int 2], IntS d := all_cons a0 (all_cons a1 (all_cons a2 (all_cons ⟨_, rfl⟩ (all_cons ⟨_, rfl⟩ (all_cons ⟨_, rfl⟩ (all_cons a3 (all_cons ⟨_, rfl⟩ all_nil)))))))
      generalize hE : [τ 0, τ 1, τ 2, .int 31622, .int 31623, .int 100000, τ 3, .int 2] = ends at *
      have hEl : ends.length = 8 := by rw [← hE]; rfl
      have hEn : ends ≠ [] := by intro z; rw [z] at hEl; cases hEl
      have fE := ints_flat allI
      have dt5 := dp_keep (fun _ _ q => kh5.tup q) _ _ (flat_enc t) dt4
      refine ⟨h, c, fun _ => .str w, fun _ => IntS, hh5, And.intro ⟨_, rfl, .str w, rfl⟩ True.intro, And.intro (fun H6 kh6 hh6 => ⟨_, rfl, _, rfl, ?_⟩) (And.intro (fun H6 kh6 hh6 => ⟨_, rfl, _, rfl, h, c, fun _ => .int 0, fun _ => IntS, hh6, True.intro, And.intro (fun H7 kh7 hh7 => ⟨_, rfl, hh7.kr, hh7, _, ⟨_, rfl⟩, rfl, .int _⟩) True.intro, fun v7 H7 τ7 kh7 hh7 als7 ft7 dp7 => ?_⟩) True.intro), fun v6 H6 τ6 kh6 hh6 als6 ft6 dp6 => ?_⟩
      · have d6 := dp_keep (fun _ _ q => kh6.tup q) _ _ (show flatD (.tuple ends) = true from fE) dpe
        exact pick_of (E := E0) hh6 d6 fE hEn (by omega) fun v' H' d m kh' hh' dd => ⟨kh', hh', d, allI d m, flatDs_all fE d m, dd⟩
      · have d7 := dp_keep (fun _ _ q => (kh6.trans kh7).tup q) _ _ (show flatD (.tuple ends) = true from fE) dpe
        have dp7' : Dp K H7 v7 (.tuple [.int 1, τ7 0]) := dp7
        obtain ⟨b0, _⟩ := als7
        have allI2 : ∀ d ∈ ends ++ [.int 1, τ7 0], IntS d := fun d m => by
          rcases List.mem_append.mp m with m | m
          · exact allI d m
          · exact (all_cons ⟨_, rfl⟩ (all_cons b0 all_nil) : ∀ d ∈ [PyData.int 1, τ7 0], IntS d) d m
        obtain ⟨aa, xa, rfl, ha, hxa⟩ := dp_tup d7
        obtain ⟨ab, xb, rfl, hb, hxb⟩ := dp_tup dp7'
        have la := DpAll.len hxa
        have lb := DpAll.len hxb
        refine cat_any ha hb (Nat.le_trans (show xa.length + xb.length ≤ 20 by rw [la, lb, hEl]; exact Nat.le_of_ble_eq_true rfl) (by decide)) fun t8 H8 s8 ht8 => ?_
        have d8 : Dp K H8 (.ref t8) (.tuple (ends ++ [.int 1, τ7 0])) := .tup ht8 (DpAll.app (dps_same s8 _ _ hxa) (dps_same s8 _ _ hxb))
        have hh8 := hh7.same s8
        refine pick_of (E := E0) hh8 d8 (ints_flat allI2) (fun z => hEn (List.append_eq_nil_iff.mp z).1) (by rw [List.length_append, hEl]; exact Nat.le_of_ble_eq_true rfl) fun v' H' d m kh' hh' dd => ⟨(kh7.trans (hh7.kh s8)).trans kh', hh', d, allI2 d m, flatDs_all (ints_flat allI2) d m, dd⟩
      · obtain ⟨⟨i0, e0⟩, ⟨i1, e1⟩, _⟩ := als6
        have dp6' : Dp K H6 v6 (.tuple [.str "op", .str w, .tuple [.tuple [.str "number", τ6 0], .tuple [.str "number", τ6 1]]]) := dp6
        rw [show τ6 0 = .int i0 from e0, show τ6 1 = .int i1 from e1] at dp6'
        exact k v6 (.mk (.op w) [.mk (.num i0) [], .mk (.num i1) []]) H6 ((kh04.trans kh5).trans kh6) hh6 dp6' (gd_op (d := 1) (opW_sok w hw) ((gd_num i0).cons ((gd_num i1).cons Gds.nil)))
    · refine iteIne q2 ⟨h, c, fun | 1 => .str w | _ => t.enc, fun _ => TreeS 1 1, hh4, And.intro ⟨_, rfl, .str w, rfl⟩ (And.intro ⟨_, rfl, dt4, flat_enc t⟩ True.intro), And.intro (fun H5 kh5 hh5 => ?_) True.intro, fun v6 H6 τ6 kh6 hh6 als6 ft6 dp6 => ?_⟩
      · exact ex_gen rfl hh5 fun v' t H' kh' hh' dd g => ⟨kh', hh', t.enc, ⟨t, rfl, g⟩, flat_enc t, dd⟩
      · obtain ⟨⟨t1, e0, g1⟩, _⟩ := als6
        have dp6' : Dp K H6 v6 (.tuple [.str "op", .str w, .tuple [t.enc, τ6 0]]) := dp6
        rw [show τ6 0 = t1.enc from e0] at dp6'
        exact k v6 (.mk (.op w) [t, t1]) H6 (kh04.trans kh6) hh6 dp6' (gd_op (d := 1) (opW_sok w hw) (g.cons (g1.cons Gds.nil)))
abbrev s_l_count_on : Stmt := top 20
abbrev N_l_count_on : List Str := ["_law_most", "_law_more", "_law_other", "_law_count"]
theorem sc_l_count_on : FnScope N_l_count_on ["_law_most", "_law_more", "_law_other"] (defScope s_l_count_on) := ⟨rfl, rfl, rfl, by decide +kernel, rfl, by decide +kernel, by decide +kernel⟩
theorem ok_l_count_on (T : Txt mg) (D : At K mg "_law_count_on" s_l_count_on ["_law_most", "_law_more", "_law_other"]) : Cl P w K mg base 1 "_law_count_on" (spCount K) := by
  refine cl_of D sc_l_count_on (fun vs H Q E h => ?_) fun f cdv A outer s H vs Q E hr h => ?_
  · obtain ⟨h, c, m, v1, v2, t1, t2, d1, d2, n1, n2, rfl, _⟩ := h
    rfl
  · obtain ⟨h, c, m, v1, v2, t1, t2, d1, d2, n1, n2, rfl, hh, e1, e2, g1, g2, l1, l2, k⟩ := h
    refine ⟨_, (pss_cons (ps_set (i := 3) sc_l_count_on.nd rfl (Or.inl rfl) (pgx_tup (K := K) (pgx_cons pgx_str (pgx_cons pgx_str (pgx_cons (pgx_tup (K := K) (pgx_cons pgx_str (pgx_cons pgx_str (pgx_cons (pgx_tup (K := K) (pgx_cons (pgx_tup (K := K) (pgx_cons pgx_str (pgx_cons pgx_str pgx_nil))) (pgx_cons (pgx_tup (K := K) (pgx_cons pgx_str (pgx_cons pgx_int pgx_nil))) pgx_nil))) pgx_nil)))) pgx_nil)))))
      (pss_one (ps_ret (pgx_tup (K := K) (pgx_cons pgx_str (pgx_cons (pgx_tup (K := K) (pgx_cons pgx_str (pgx_cons pgx_str (pgx_cons (pgx_tup (K := K) (pgx_cons (pgx_tup (K := K) (pgx_cons pgx_str (pgx_cons pgx_str pgx_nil))) (pgx_cons (pgx_tup (K := K) (pgx_cons pgx_str (pgx_cons (pgx_slot (pv 0)) pgx_nil))) pgx_nil))) pgx_nil)))) (pgx_cons (pgx_tup (K := K) (pgx_cons pgx_str (pgx_cons (pgx_tup (K := K) (pgx_cons (pgx_slot (pv 3)) (pgx_cons (pgx_slot (pv 1)) pgx_nil))) pgx_nil))) (pgx_cons (pgx_slot (pv 2)) pgx_nil)))))))), ?_⟩
    have sn : sok "n" := by decide +kernel
    have gc : Gd 4 4 (.mk (.one "set" "n") [.mk (.op "+") [.mk (.name "n") [], .mk (.num 1) []]]) := (gd_one (by decide) sn (gd_op (d := 1) (by decide +kernel) ((gd_name sn).cons ((gd_num 1).cons Gds.nil)))).mono (by omega) (by omega)
    refine ⟨h, c, fun _ => .int 0, fun _ _ => True, hh, True.intro, True.intro, fun v H1 τ kh1 hh1 _ ft dp => ?_⟩
    have dpc : Dp K H1 v (Tr.mk (.one "set" "n") [.mk (.op "+") [.mk (.name "n") [], .mk (.num 1) []]]).enc := dp
    have e11 := dp_keep (fun _ _ q => kh1.tup q) _ _ (flat_enc t1) e1
    have e21 := dp_keep (fun _ _ q => kh1.tup q) _ _ (flat_enc t2) e2
    refine ⟨h, c, fun | 0 => .int m | 1 => t1.enc | 2 => t2.enc | _ => (Tr.mk (.one "set" "n") [.mk (.op "+") [.mk (.name "n") [], .mk (.num 1) []]]).enc, fun _ _ => True, hh1, And.intro ⟨_, rfl, .int m, rfl⟩ (And.intro ⟨_, rfl, dpc, flat_enc _⟩ (And.intro ⟨_, rfl, e11, flat_enc _⟩ (And.intro ⟨_, rfl, e21, flat_enc _⟩ True.intro))), True.intro, fun v3 H2 τ2 kh2 hh2 _ ft2 dp2 => ?_⟩
    have ga : Gd 3 3 (.mk (.op "<") [.mk (.name "n") [], .mk (.num m) []]) := gd_op (d := 1) (by decide +kernel) ((gd_name sn).cons ((gd_num m).cons Gds.nil))
    have gb : Gd 6 (4 + (n1 + 0) + 1) (.mk .doo [.mk (.one "set" "n") [.mk (.op "+") [.mk (.name "n") [], .mk (.num 1) []]], t1]) := gd_do (d := 4) (gc.cons (g1.cons Gds.nil))
    exact k v3 (.mk (.plain "if") [.mk (.op "<") [.mk (.name "n") [], .mk (.num m) []], .mk .doo [.mk (.one "set" "n") [.mk (.op "+") [.mk (.name "n") [], .mk (.num 1) []]], t1], t2]) H2 (kh1.trans kh2) hh2 dp2 ((gd_if (d := 6) (ga.cons (gb.cons (g2.cons Gds.nil)))).mono (by omega) (by omega))
abbrev s_l_go_again : Stmt := top 21
abbrev N_l_go_again : List Str := ["_law_hand_here", "_law_name", "_law_go", "_law_safe"]
theorem sc_l_go_again : FnScope N_l_go_again ["_law_hand_here"] (defScope s_l_go_again) := ⟨rfl, rfl, rfl, by decide +kernel, rfl, by decide +kernel, by decide +kernel⟩
theorem ok_l_go_again (T : Txt mg) (c_l_draw : Cl P w K mg base 2 "_law_draw" spDraw) (c_l_pick : Cl P w K mg base 3 "_law_pick" (spPick K)) (c_l_count_on : Cl P w K mg base 1 "_law_count_on" (spCount K)) (D : At K mg "_law_go_again" s_l_go_again ["_law_hand_here"]) : Cl P w K mg base 4 "_law_go_again" (spGenT K 7 18) := by
  refine cl_of D sc_l_go_again (fun vs H Q E h => ?_) fun f cdv A outer s H vs Q E hr h => ?_
  · obtain ⟨h, c, rfl, _⟩ := h
    rfl
  · obtain ⟨h, c, rfl, hh, k⟩ := h
    refine ⟨_, (pss_cons (ps_set (i := 1) sc_l_go_again.nd rfl (Or.inl rfl) (pe_c c_l_pick hr (by decide) (by rfl) (pa_cons (pv 0) (pa_cons (pgx_tup (K := K) (pgx_cons pgx_str (pgx_cons pgx_str (pgx_cons pgx_str pgx_nil)))) pa_nil))))
      (pss_cons (ps_set (i := 2) sc_l_go_again.nd rfl (Or.inl rfl) (pgx_tup (K := K) (pgx_cons pgx_str (pgx_cons (pgx_tup (K := K) (pgx_cons pgx_str (pgx_cons (pgx_slot (pv 1)) pgx_nil))) (pgx_cons (pgx_tup (K := K) (pgx_cons (pgx_tup (K := K) (pgx_cons pgx_str (pgx_cons (pgx_ex 0 (pe_c c_l_draw hr (by decide) (by rfl) (pa_cons (pv 0) (pa_cons pe_int pa_nil)))) pgx_nil))) pgx_nil)) pgx_nil)))))
      (pss_cons (ps_set (i := 3) sc_l_go_again.nd rfl (Or.inl rfl) (pgx_tup (K := K) (pgx_cons pgx_str (pgx_cons (pgx_tup (K := K) (pgx_cons pgx_str (pgx_cons pgx_str (pgx_cons (pgx_tup (K := K) (pgx_cons (pgx_tup (K := K) (pgx_cons pgx_str (pgx_cons (pgx_slot (pv 1)) pgx_nil))) pgx_nil)) pgx_nil)))) (pgx_cons (pgx_slot (pv 2)) (pgx_cons (pgx_tup (K := K) (pgx_cons pgx_str (pgx_cons pgx_int pgx_nil))) pgx_nil))))))
      (pss_one (ps_ret (pe_c c_l_count_on hr (by decide) (by rfl) (pa_cons (pe_op op_add pe_int (pe_c c_l_draw hr (by decide) (by rfl) (pa_cons (pv 0) (pa_cons pe_int pa_nil)))) (pa_cons (pv 3) (pa_cons (pgx_tup (K := K) (pgx_cons pgx_str (pgx_cons (pgx_tup (K := K) (pgx_cons pgx_str (pgx_cons pgx_str pgx_nil))) pgx_nil))) pa_nil))))))))), ?_⟩
    have skj : ∀ w ∈ (["k", "k", "j"] : List Str), sok w := by decide +kernel
    have sn : sok "n" := by decide +kernel
    refine ex_pick (fun _ => .int 0) rfl hh True.intro rfl (by intro z; cases z) (by decide) fun v1 H1 d1 m1 kh1 hh1 _ dd1 => ?_
    obtain ⟨x, hx, rfl⟩ := words_of (ws := ["k", "k", "j"]) m1
    obtain rfl := dp_str dd1
    have sx := skj x hx
    refine ⟨h, c, fun _ => .str x, fun _ => IntS, hh1, And.intro ⟨_, rfl, .str x, rfl⟩ True.intro, And.intro (fun H2 kh2 hh2 => ex_draw rfl hh2 (by decide) (by decide) fun m H3 _ _ kh3 hh3 => ⟨kh3, hh3, _, ⟨_, rfl⟩, rfl, .int _⟩) True.intro, fun v2 H2 τ2 kh2 hh2 als2 ft2 dp2 => ?_⟩
    obtain ⟨⟨i0, e0⟩, _⟩ := als2
    have dpg : Dp K H2 v2 (.tuple [.str "call", .tuple [.str "name", .str x], .tuple [.tuple [.str "number", τ2 0]]]) := dp2
    rw [show τ2 0 = .int i0 from e0] at dpg
    have g1 : Gd 3 3 (.mk .call [.mk (.name x) [], .mk (.num i0) []]) := gd_call (d := 1) ((gd_name sx).cons ((gd_num i0).cons Gds.nil))
    have dpg' : Dp K H2 v2 (Tr.mk .call [.mk (.name x) [], .mk (.num i0) []]).enc := dpg
    refine ⟨h, c, fun | 1 => .str x | _ => (Tr.mk .call [.mk (.name x) [], .mk (.num i0) []]).enc, fun _ _ => True, hh2, And.intro ⟨_, rfl, .str x, rfl⟩ (And.intro ⟨_, rfl, dpg', flat_enc _⟩ True.intro), True.intro, fun v3 H3 τ3 kh3 hh3 _ ft3 dp3 => ?_⟩
    have g2 : Gd 4 7 (.mk (.plain "if") [.mk (.op "rest?") [.mk (.name x) []], .mk .call [.mk (.name x) [], .mk (.num i0) []], .mk (.num 4) []]) :=
      gd_if (d := 3) ((gd_op (d := 1) (by decide +kernel) ((gd_name sx).cons Gds.nil)).cons (g1.cons ((gd_num 4).cons Gds.nil)))
    have dp3' : Dp K H3 v3 (Tr.mk (.plain "if") [.mk (.op "rest?") [.mk (.name x) []], .mk .call [.mk (.name x) [], .mk (.num i0) []], .mk (.num 4) []]).enc := dp3
    have kh03 := (kh1.trans kh2).trans kh3
    refine ex_draw rfl hh3 (by decide) (by decide) fun m H4 _ _ kh4 hh4 => ?_
    refine ⟨_, _, rfl, rfl, _, rfl, h, c, fun _ => .int 0, fun _ _ => True, hh4, True.intro, True.intro, fun v5 H5 τ5 kh5 hh5 _ ft5 dp5 => ?_⟩
    have g3 : Gd 2 2 (.mk (.plain "show") [.mk (.name "n") []]) := gd_show (gd_name sn)
    have dp5' : Dp K H5 v5 (Tr.mk (.plain "show") [.mk (.name "n") []]).enc := dp5
    have dp3'' := dp_keep (fun _ _ q => (kh4.trans kh5).tup q) _ _ (flat_enc _) dp3'
    exact ⟨h, c, _, v3, v5, _, _, 4, 2, 7, 2, rfl, hh5, dp3'', dp5', g2, g3, by omega, by omega, fun v t H' kh' hh' dd g => k v t H' ((kh03.trans (kh4.trans kh5)).trans kh') hh' dd g⟩
abbrev s_l_nested : Stmt := top 26
abbrev N_l_nested : List Str := ["_law_hand_here", "_law_inner", "_law_name", "_law_pick_here"]
theorem sc_l_nested : FnScope N_l_nested ["_law_hand_here", "_law_inner", "_law_name"] (defScope s_l_nested) := ⟨rfl, rfl, rfl, by decide +kernel, rfl, by decide +kernel, by decide +kernel⟩
theorem ok_l_nested (T : Txt mg) (c_l_draw : Cl P w K mg base 2 "_law_draw" spDraw) (c_l_pick : Cl P w K mg base 3 "_law_pick" (spPick K)) (D : At K mg "_law_nested" s_l_nested ["_law_hand_here", "_law_inner", "_law_name"]) : Cl P w K mg base 4 "_law_nested" (spNest K) := by
  refine cl_of D sc_l_nested (fun vs H Q E h => ?_) fun f cdv A outer s H vs Q E hr h => ?_
  · obtain ⟨h, c, v, x, s, d, n, rfl, _⟩ := h
    rfl
  · obtain ⟨h, c, v, x, s, d, n, rfl, hh, e0, g, ld, sx, k⟩ := h
    refine ⟨_, (pss_cons (ps_set (i := 3) sc_l_nested.nd rfl (Or.inl rfl) (pe_c c_l_draw hr (by decide) (by rfl) (pa_cons (pv 0) (pa_cons pe_int pa_nil))))
      (pss_cons (ps_if (pt_cmpR op_eq (pv 3) pe_int (nomark _))
        (pss_one (ps_ret (pgx_tup (K := K) (pgx_cons pgx_str (pgx_cons (pgx_tup (K := K) (pgx_cons (pgx_tup (K := K) (pgx_cons (pgx_slot (pv 2)) (pgx_cons (pgx_slot (pv 1)) pgx_nil))) pgx_nil)) (pgx_cons (pgx_tup (K := K) (pgx_cons pgx_str (pgx_cons pgx_str (pgx_cons (pgx_tup (K := K) (pgx_cons (pgx_tup (K := K) (pgx_cons pgx_str (pgx_cons (pgx_slot (pv 2)) pgx_nil))) (pgx_cons (pgx_slot (pv 1)) pgx_nil))) pgx_nil)))) pgx_nil))))))
        pss_nil)
      (pss_cons (ps_if (pt_cmpR op_eq (pv 3) pe_int (nomark _))
        (pss_one (ps_ret (pgx_tup (K := K) (pgx_cons pgx_str (pgx_cons (pgx_tup (K := K) (pgx_cons pgx_str (pgx_cons (pgx_tup (K := K) (pgx_cons (pgx_slot (pv 2)) pgx_nil)) (pgx_cons (pgx_slot (pv 1)) pgx_nil)))) (pgx_cons (pgx_tup (K := K) (pgx_cons (pgx_slot (pv 1)) pgx_nil)) pgx_nil))))))
        pss_nil)
      (pss_cons (ps_if (pt_cmpR op_eq (pv 3) pe_int (nomark _))
        (pss_one (ps_ret (pgx_tup (K := K) (pgx_cons pgx_str (pgx_cons (pgx_tup (K := K) (pgx_cons (pgx_tup (K := K) (pgx_cons (pgx_slot (pv 2)) (pgx_cons (pgx_tup (K := K) (pgx_cons pgx_str (pgx_cons (pgx_tup (K := K) (pgx_cons pgx_str pgx_nil)) (pgx_cons (pgx_slot (pv 1)) pgx_nil)))) pgx_nil))) pgx_nil)) (pgx_cons (pgx_tup (K := K) (pgx_cons pgx_str (pgx_cons (pgx_tup (K := K) (pgx_cons pgx_str (pgx_cons (pgx_slot (pv 2)) pgx_nil))) (pgx_cons (pgx_tup (K := K) (pgx_cons (pgx_slot (pv 1)) pgx_nil)) pgx_nil)))) pgx_nil))))))
        pss_nil)
      (pss_cons (ps_if (pt_cmpR op_eq (pv 3) pe_int (nomark _))
        (pss_one (ps_ret (pgx_tup (K := K) (pgx_cons pgx_str (pgx_cons (pgx_tup (K := K) (pgx_cons (pgx_tup (K := K) (pgx_cons pgx_str (pgx_cons (pgx_slot (pv 2)) (pgx_cons (pgx_slot (pv 1)) pgx_nil)))) (pgx_cons (pgx_tup (K := K) (pgx_cons pgx_str (pgx_cons (pgx_tup (K := K) (pgx_cons pgx_str (pgx_cons (pgx_slot (pv 2)) pgx_nil))) (pgx_cons (pgx_tup (K := K) (pgx_cons (pgx_tup (K := K) (pgx_cons pgx_str (pgx_cons pgx_int pgx_nil))) (pgx_cons (pgx_tup (K := K) (pgx_cons pgx_str (pgx_cons (pgx_slot (pv 2)) pgx_nil))) pgx_nil))) pgx_nil)))) pgx_nil))) pgx_nil)))))
        pss_nil)
      (pss_one (ps_ret (pgx_tup (K := K) (pgx_cons (pgx_ex 0 (pe_c c_l_pick hr (by decide) (by rfl) (pa_cons (pv 0) (pa_cons (pgx_tup (K := K) (pgx_cons pgx_str (pgx_cons pgx_str (pgx_cons pgx_str pgx_nil)))) pa_nil)))) (pgx_cons (pgx_slot (pv 2)) (pgx_cons (pgx_tup (K := K) (pgx_cons pgx_str (pgx_cons (pgx_tup (K := K) (pgx_cons pgx_str (pgx_cons (pgx_slot (pv 2)) pgx_nil))) (pgx_cons (pgx_tup (K := K) (pgx_cons (pgx_slot (pv 1)) pgx_nil)) pgx_nil)))) pgx_nil))))))))))), ?_⟩
    refine ex_draw rfl hh (by decide) (by decide) fun m H1 _ _ kh1 hh1 => ?_
    have e1 := dp_keep (fun _ _ q => kh1.tup q) _ _ (flat_enc s) e0
    have fin : ∀ (u : V) (t : Tr) (H2 : Hp), Kh h H1 H2 → Hand H2 h c → Dp K H2 u t.enc → Gm (5 + d) (2 * n + 6) t → Q u H2 := fun u t H2 kh2 hh2 dd gt => k u t H2 (kh1.trans kh2) hh2 dd gt
    have gx : Gm d 1 (.mk (.name x) []) := ⟨(gd_name sx).ok, ld, Nat.le_refl _⟩
    have nm : (Tr.mk (.name x) []).enc = .tuple [.str "name", .str x] := rfl
    refine ⟨_, rfl, rfl, _, rfl, ?_⟩
    by_cases q : m = 0
    · refine iteIeq q ⟨h, c, fun | 2 => .str x | _ => s.enc, fun _ _ => True, hh1, And.intro ⟨_, rfl, .str x, rfl⟩ (And.intro ⟨_, rfl, e1, flat_enc s⟩ (And.intro ⟨_, rfl, .str x, rfl⟩ (And.intro ⟨_, rfl, e1, flat_enc s⟩ True.intro))), True.intro, fun v3 H3 τ3 kh3 hh3 _ ft3 dp3 => ?_⟩
      exact fin v3 (.mk (.bind "let" [x]) [s, .mk (.op "+") [.mk (.name x) [], s]]) H3 kh3 hh3 dp3 (gm_of (gms2 g (gm_op (by decide +kernel) (gms2 gx g))) ⟨rfl, by decide, all_cons sx all_nil⟩ (by show 3 + _ ≤ _; omega) (by omega))
    refine iteIne q ⟨_, rfl, rfl, _, rfl, ?_⟩
    by_cases q : m = 1
    · refine iteIeq q ⟨h, c, fun | 2 => .str x | _ => s.enc, fun _ _ => True, hh1, And.intro ⟨_, rfl, .str x, rfl⟩ (And.intro ⟨_, rfl, e1, flat_enc s⟩ (And.intro ⟨_, rfl, e1, flat_enc s⟩ True.intro)), True.intro, fun v3 H3 τ3 kh3 hh3 _ ft3 dp3 => ?_⟩
      have g1 : Gm (1 + d) (n + 1) (.mk (.fn [x]) [s]) := gm_of (gms1 g) ⟨rfl, Nat.le_of_ble_eq_true rfl, all_cons sx all_nil⟩ (by show 1 + d ≤ _; omega) (by omega)
      exact fin v3 (.mk .call [.mk (.fn [x]) [s], s]) H3 kh3 hh3 dp3 (gm_of (gms2 g1 g) (show 1 ≤ 2 by decide) (by show 2 + _ ≤ _; omega) (by omega))
    refine iteIne q ⟨_, rfl, rfl, _, rfl, ?_⟩
    have gc : Gm (2 + d) (n + 2) (.mk .call [.mk (.name x) [], s]) := gm_of (gms2 gx g) (show 1 ≤ 2 by decide) (by show 2 + _ ≤ _; omega) (by omega)
    by_cases q : m = 2
    · refine iteIeq q ⟨h, c, fun | 2 => .str x | _ => s.enc, fun _ _ => True, hh1, And.intro ⟨_, rfl, .str x, rfl⟩ (And.intro ⟨_, rfl, e1, flat_enc s⟩ (And.intro ⟨_, rfl, .str x, rfl⟩ (And.intro ⟨_, rfl, e1, flat_enc s⟩ True.intro))), True.intro, fun v3 H3 τ3 kh3 hh3 _ ft3 dp3 => ?_⟩
      have g1 : Gm (1 + d) (n + 1) (.mk (.fn ["v0"]) [s]) := gm_of (gms1 g) ⟨rfl, Nat.le_of_ble_eq_true rfl, all_cons (by decide +kernel) all_nil⟩ (by show 1 + d ≤ _; omega) (by omega)
      exact fin v3 (.mk (.bind "rec" [x]) [.mk (.fn ["v0"]) [s], .mk .call [.mk (.name x) [], s]]) H3 kh3 hh3 dp3 (gm_of (gms2 g1 gc) ⟨rfl, by decide, all_cons sx all_nil⟩ (by show 3 + _ ≤ _; omega) (by omega))
    refine iteIne q ⟨_, rfl, rfl, _, rfl, ?_⟩
    by_cases q : m = 3
    · refine iteIeq q ⟨h, c, fun | 2 => .str x | _ => s.enc, fun _ _ => True, hh1, And.intro ⟨_, rfl, .str x, rfl⟩ (And.intro ⟨_, rfl, e1, flat_enc s⟩ (And.intro ⟨_, rfl, .str x, rfl⟩ (And.intro ⟨_, rfl, .str x, rfl⟩ True.intro))), True.intro, fun v3 H3 τ3 kh3 hh3 _ ft3 dp3 => ?_⟩
      have g1 : Gm (1 + d) (n + 1) (.mk (.one "set" x) [s]) := gm_of (gms1 g) ⟨rfl, by decide, sx⟩ (by show 1 + d ≤ _; omega) (by omega)
      have gi : Gm d 1 (.mk (.num 1) []) := (gd_num 1).gm.mono ld (Nat.le_refl _)
      have g2 : Gm (2 + d) 4 (.mk .call [.mk (.name x) [], .mk (.num 1) [], .mk (.name x) []]) := gm_of (gx.gms3 gi gx) (show 1 ≤ 3 by decide) (by show 2 + _ ≤ _; omega) (by omega)
      exact fin v3 (.mk .doo [.mk (.one "set" x) [s], .mk .call [.mk (.name x) [], .mk (.num 1) [], .mk (.name x) []]]) H3 kh3 hh3 dp3 (gm_of (gms2 g1 g2) True.intro (by show 2 + _ ≤ _; omega) (by omega))
    refine iteIne q ⟨h, c, fun | 2 => .str x | _ => s.enc, fun _ => WordS ["keep", "once", "take"], hh1, And.intro ⟨_, rfl, .str x, rfl⟩ (And.intro ⟨_, rfl, .str x, rfl⟩ (And.intro ⟨_, rfl, e1, flat_enc s⟩ True.intro)), And.intro (fun H2 kh2 hh2 => ?_) True.intro, fun v3 H3 τ3 kh3 hh3 als ft3 dp3 => ?_⟩
    · exact ex_pick (fun _ => .int 0) rfl hh2 True.intro rfl (by intro z; cases z) (by decide) fun v' H' d m kh' hh' f dd => ⟨kh', hh', d, words_of (ws := ["keep", "once", "take"]) m, f, dd⟩
    · obtain ⟨⟨wk, hwk, e9⟩, _⟩ := als
      have dp' : Dp K H3 v3 (.tuple [τ3 0, .str x, (Tr.mk .call [.mk (.name x) [], s]).enc]) := dp3
      rw [show τ3 0 = .str wk from e9] at dp'
      have hw1 : ∀ w ∈ (["keep", "once", "take"] : List Str), w ∈ oneW := by decide
      exact fin v3 (.mk (.one wk x) [.mk .call [.mk (.name x) [], s]]) H3 kh3 hh3 dp' (gm_of (gms1 gc) ⟨rfl, hw1 wk hwk, sx⟩ (by show 1 + _ ≤ _; omega) (by omega))
end
end K13

namespace K13
open PySem L2 Cm
section
variable {P : Program} {w : World} {K : PySem.W.Frag} {mg : Str → Option Value} {base : Heap}
abbrev s_l_grown_more : Stmt := top 23
abbrev N_l_grown_more : List Str := ["_law_hand_here", "_law_inner", "_law_name", "_law_pick_here", "_law_read", "_law_literal", "_law_fun", "_law_many", "_law_test", "_law_body"]
theorem sc_l_grown_more : FnScope N_l_grown_more ["_law_hand_here", "_law_inner", "_law_name", "_law_pick_here"] (defScope s_l_grown_more) := ⟨rfl, rfl, rfl, by decide +kernel, rfl, by decide +kernel, by decide +kernel⟩
theorem ok_l_grown_more (T : Txt mg) (c_l_draw : Cl P w K mg base 2 "_law_draw" spDraw) (c_l_pick : Cl P w K mg base 3 "_law_pick" (spPick K)) (c_l_some_literal : Cl P w K mg base 3 "_law_some_literal" (spGenT K 1 1)) (c_l_some_op : Cl P w K mg base 4 "_law_some_op" (spGenT K 3 3)) (D : At K mg "_law_grown_more" s_l_grown_more ["_law_hand_here", "_law_inner", "_law_name", "_law_pick_here"]) : Cl P w K mg base 5 "_law_grown_more" (spMore K) := by
  refine cl_of D sc_l_grown_more (fun vs H Q E h => ?_) fun f cdv A outer s H vs Q E hr h => ?_
  · obtain ⟨h, c, v, x, p, s, d, n, rfl, _⟩ := h
    rfl
  · obtain ⟨h, c, v, x, p, s, d, n, rfl, hh, e0, gs, l7, sx, k⟩ := h
    refine ⟨_, (pss_cons (ps_set (i := 4) sc_l_grown_more.nd rfl (Or.inl rfl) (pgx_tup (K := K) (pgx_cons pgx_str (pgx_cons (pgx_slot (pv 2)) pgx_nil))))
      (pss_cons (ps_set (i := 5) sc_l_grown_more.nd rfl (Or.inl rfl) (pe_c c_l_some_literal hr (by decide) (by rfl) (pa_cons (pv 0) pa_nil)))
      (pss_cons (ps_if (pt_cmpR op_eq (pv 3) pe_int (nomark _))
        (pss_cons (ps_set (i := 6) sc_l_grown_more.nd rfl (Or.inl rfl) (pgx_tup (K := K) (pgx_cons pgx_str (pgx_cons (pgx_tup (K := K) (pgx_cons (pgx_slot (pv 2)) (pgx_cons pgx_str pgx_nil))) (pgx_cons (pgx_tup (K := K) (pgx_cons pgx_str (pgx_cons pgx_str (pgx_cons (pgx_tup (K := K) (pgx_cons (pgx_slot (pv 4)) (pgx_cons (pgx_tup (K := K) (pgx_cons pgx_str (pgx_cons pgx_str pgx_nil))) pgx_nil))) pgx_nil)))) pgx_nil)))))
        (pss_cons (ps_set (i := 7) sc_l_grown_more.nd rfl (Or.inl rfl) (pe_c c_l_pick hr (by decide) (by rfl) (pa_cons (pv 0) (pa_cons (pgx_tup (K := K) (pgx_cons pgx_int (pgx_cons pgx_int (pgx_cons pgx_int (pgx_cons pgx_int (pgx_cons pgx_int pgx_nil)))))) pa_nil))))
        (pss_one (ps_ret (pgx_tup (K := K) (pgx_cons pgx_str (pgx_cons (pgx_slot (pv 6)) (pgx_cons (pgx_ex 0 (pe_slice sl_tupA (pgx_tup (K := K) (pgx_cons (pgx_slot (pv 1)) (pgx_cons (pgx_slot (pv 5)) (pgx_cons (pgx_tup (K := K) (pgx_cons pgx_str pgx_nil)) pgx_nil)))) po_none (po_some (pv 7)))) pgx_nil))))))))
        pss_nil)
      (pss_cons (ps_if (pt_cmpR op_eq (pv 3) pe_int (nomark _))
        (pss_cons (ps_set (i := 8) sc_l_grown_more.nd rfl (Or.inl rfl) (pgx_tup (K := K) (pgx_cons pgx_str (pgx_cons pgx_str (pgx_cons (pgx_tup (K := K) (pgx_cons (pgx_tup (K := K) (pgx_cons pgx_str (pgx_cons pgx_str pgx_nil))) (pgx_cons (pgx_tup (K := K) (pgx_cons pgx_str (pgx_cons (pgx_ex 0 (pe_c c_l_draw hr (by decide) (by rfl) (pa_cons (pv 0) (pa_cons pe_int pa_nil)))) pgx_nil))) pgx_nil))) pgx_nil)))))
        (pss_one (ps_ret (pgx_tup (K := K) (pgx_cons pgx_str (pgx_cons (pgx_tup (K := K) (pgx_cons (pgx_tup (K := K) (pgx_cons (pgx_slot (pv 2)) (pgx_cons (pgx_slot (pv 5)) pgx_nil))) pgx_nil)) (pgx_cons (pgx_tup (K := K) (pgx_cons pgx_str (pgx_cons (pgx_slot (pv 8)) (pgx_cons (pgx_slot (pv 1)) (pgx_cons (pgx_tup (K := K) (pgx_cons pgx_str (pgx_cons (pgx_slot (pv 4)) (pgx_cons (pgx_tup (K := K) (pgx_cons (pgx_slot (pv 5)) pgx_nil)) pgx_nil)))) pgx_nil))))) pgx_nil)))))))
        pss_nil)
      (pss_cons (ps_if (pt_cmpR op_eq (pv 3) pe_int (nomark _))
        (pss_cons (ps_set (i := 9) sc_l_grown_more.nd rfl (Or.inl rfl) (pgx_tup (K := K) (pgx_cons pgx_str (pgx_cons (pgx_tup (K := K) (pgx_cons (pgx_slot (pv 5)) (pgx_cons (pgx_tup (K := K) (pgx_cons pgx_str (pgx_cons pgx_str (pgx_cons (pgx_tup (K := K) (pgx_cons (pgx_tup (K := K) (pgx_cons pgx_str (pgx_cons pgx_str pgx_nil))) (pgx_cons (pgx_ex 0 (pe_c c_l_some_op hr (by decide) (by rfl) (pa_cons (pv 0) pa_nil))) pgx_nil))) pgx_nil)))) pgx_nil))) pgx_nil))))
        (pss_one (ps_ret (pgx_tup (K := K) (pgx_cons pgx_str (pgx_cons (pgx_tup (K := K) (pgx_cons (pgx_tup (K := K) (pgx_cons (pgx_slot (pv 2)) (pgx_cons (pgx_tup (K := K) (pgx_cons pgx_str (pgx_cons (pgx_tup (K := K) (pgx_cons pgx_str pgx_nil)) (pgx_cons (pgx_slot (pv 9)) pgx_nil)))) pgx_nil))) pgx_nil)) (pgx_cons (pgx_tup (K := K) (pgx_cons pgx_str (pgx_cons (pgx_slot (pv 4)) (pgx_cons (pgx_tup (K := K) (pgx_cons (pgx_slot (pv 1)) pgx_nil)) pgx_nil)))) pgx_nil)))))))
        pss_nil)
      (pss_one (ps_ret (pgx_tup (K := K) (pgx_cons pgx_str (pgx_cons (pgx_tup (K := K) (pgx_cons (pgx_tup (K := K) (pgx_cons (pgx_slot (pv 2)) (pgx_cons (pgx_slot (pv 5)) pgx_nil))) (pgx_cons (pgx_tup (K := K) (pgx_cons pgx_str (pgx_cons (pgx_slot (pv 1)) pgx_nil))) pgx_nil))) (pgx_cons (pgx_tup (K := K) (pgx_cons pgx_str (pgx_cons (pgx_tup (K := K) (pgx_cons (pgx_tup (K := K) (pgx_cons pgx_str (pgx_cons (pgx_slot (pv 4)) pgx_nil))) (pgx_cons (pgx_tup (K := K) (pgx_cons pgx_str (pgx_cons pgx_str pgx_nil))) pgx_nil))) pgx_nil))) pgx_nil))))))))))), ?_⟩
    have sy : sok "y" := by decide +kernel
    have sn : sok "n" := by decide +kernel
    refine tg_pure (fun _ => .str x) hh (And.intro ⟨_, rfl, .str x, rfl⟩ True.intro) rfl fun v4 H1 kh1 hh1 d4 => ?_
    have d4' : Dp K H1 v4 (Tr.mk (.name x) []).enc := d4
    refine ex_gen rfl hh1 fun v5 lt H2 kh2 hh2 d5 gl => ?_
    have kh02 := kh1.trans kh2
    have e2 := mvT kh02 e0
    have r2 := mvT kh2 d4'
    refine ⟨_, rfl, rfl, _, rfl, ?_⟩
    by_cases q : p = 28
    · have gF : Gd 4 4 (.mk (.fn [x, "y"]) [.mk (.op "-") [.mk (.name x) [], .mk (.name "y") []]]) := gd_fn (all_cons sx (all_cons sy all_nil)) (gd_op (d := 1) (by decide +kernel) ((gd_name sx).cons ((gd_name sy).cons Gds.nil)))
      refine iteIeq q (tg_pure (fun | 2 => .str x | _ => (Tr.mk (.name x) []).enc) hh2 (And.intro ⟨_, rfl, .str x, rfl⟩ (And.intro ⟨_, rfl, r2, flat_enc _⟩ True.intro)) rfl fun v6 H3 kh3 hh3 d6 => ?_)
      have d6' : Dp K H3 v6 (Tr.mk (.fn [x, "y"]) [.mk (.op "-") [.mk (.name x) [], .mk (.name "y") []]]).enc := d6
      refine ex_pick (fun _ => .int 0) rfl hh3 True.intro rfl (by intro z; cases z) (by decide) fun v7 H4 d7 m7 kh4 hh4 _ dd7 => ?_
      have hj : ∃ j : Nat, d7 = .int (j : Int) ∧ 1 ≤ j ∧ j ≤ 3 := (all_cons ⟨2, rfl, by decide, by decide⟩ (all_cons ⟨2, rfl, by decide, by decide⟩ (all_cons ⟨2, rfl, by decide, by decide⟩ (all_cons ⟨1, rfl, by decide, by decide⟩ (all_cons ⟨3, rfl, by decide, by decide⟩ all_nil)))) : ∀ e ∈ [PyData.int 2, .int 2, .int 2, .int 1, .int 3], ∃ j : Nat, e = .int (j : Int) ∧ 1 ≤ j ∧ j ≤ 3) d7 m7
      obtain ⟨j, rfl, j1, j3⟩ := hj
      obtain rfl := dp_int dd7
      have kh24 := kh3.trans kh4
      have e4 := mvT kh24 e2
      have l4 := mvT kh24 d5
      have f4 := mvT kh4 d6'
      refine ⟨h, c, fun _ => (Tr.mk (.fn [x, "y"]) [.mk (.op "-") [.mk (.name x) [], .mk (.name "y") []]]).enc, fun _ d => d = .tuple ([s.enc, lt.enc, (Tr.mk (.lit "true") []).enc].take j), hh4, And.intro ⟨_, rfl, f4, flat_enc _⟩ True.intro, And.intro (fun H5 kh5 hh5 => ?_) True.intro, fun v9 H9 τ kh9 hh9 als ft dp => ?_⟩
      · refine tg_pure (fun | 1 => s.enc | _ => lt.enc) hh5 (And.intro ⟨_, rfl, mvT kh5 e4, flat_enc _⟩ (And.intro ⟨_, rfl, mvT kh5 l4, flat_enc _⟩ True.intro)) rfl fun v6 H6 kh6 hh6 d6 => ?_
        have d6'' : Dp K H6 v6 (.tuple [s.enc, lt.enc, (Tr.mk (.lit "true") []).enc]) := d6
        obtain ⟨a6, i6, rfl, ha6, hi6⟩ := dp_tup d6''
        have li6 := DpAll.len hi6
        have li6' : i6.length = 3 := li6
        refine ⟨_, rfl, (j : Int), rfl, ?_⟩
        refine sl_to (k := j) ha6 (by omega) fun t H7 s7 ht => ⟨kh6.trans (hh6.kh s7), hh6.same s7, _, rfl, ?_, .tup ht (DpAll.take j (dps_same s7 _ _ hi6))⟩
        show flatDs (List.take j [s.enc, lt.enc, (Tr.mk (.lit "true") []).enc]) = true
        exact flatDs_of _ fun d m => (all_cons (flat_enc s) (all_cons (flat_enc lt) (all_cons (flat_enc _) all_nil)) : ∀ e ∈ [s.enc, lt.enc, (Tr.mk (.lit "true") []).enc], flatD e = true) d (List.mem_of_mem_take m)
      · obtain ⟨e7, _⟩ := als
        have dp' : Dp K H9 v9 (.tuple [.str "call", (Tr.mk (.fn [x, "y"]) [.mk (.op "-") [.mk (.name x) [], .mk (.name "y") []]]).enc, τ 0]) := dp
        rw [show τ 0 = .tuple ([s.enc, lt.enc, (Tr.mk (.lit "true") []).enc].take j) from e7] at dp'
        have kk := (kh02.trans kh24).trans kh9
        have gt : Gd 1 1 (.mk (.lit "true") []) := gd_lit (by decide)
        match j, j1, j3, dp' with
        | 1, _, _, dp' => exact k v9 (.mk .call [_, s]) H9 kk hh9 dp' ((gd_call (d := d) (gF.cons (gs.cons Gds.nil))).mono (by omega) (by omega))
        | 2, _, _, dp' => exact k v9 (.mk .call [_, s, lt]) H9 kk hh9 dp' ((gd_call (d := d) (gF.cons (gs.cons (gl.cons Gds.nil)))).mono (by omega) (by omega))
        | 3, _, _, dp' => exact k v9 (.mk .call [_, s, lt, .mk (.lit "true") []]) H9 kk hh9 dp' ((gd_call (d := d) (gF.cons (gs.cons (gl.cons (gt.cons Gds.nil))))).mono (by omega) (by omega))
    refine iteIne q ⟨_, rfl, rfl, _, rfl, ?_⟩
    by_cases q : p = 29
    · refine iteIeq q ⟨h, c, fun _ => .int 0, fun _ => IntS, hh2, True.intro, And.intro (fun H3 kh3 hh3 => ex_draw rfl hh3 (by decide) (by decide) fun m H4 _ _ kh4 hh4 => ⟨kh4, hh4, _, ⟨_, rfl⟩, rfl, .int _⟩) True.intro, fun v8 H3 τ kh3 hh3 als ft dp => ?_⟩
      obtain ⟨⟨i0, e7⟩, _⟩ := als
      have dp' : Dp K H3 v8 (.tuple [.str "op", .str "<", .tuple [(Tr.mk (.name "n") []).enc, .tuple [.str "number", τ 0]]]) := dp
      rw [show τ 0 = .int i0 from e7] at dp'
      have d8 : Dp K H3 v8 (Tr.mk (.op "<") [.mk (.name "n") [], .mk (.num i0) []]).enc := dp'
      have g8 : Gd 3 3 (.mk (.op "<") [.mk (.name "n") [], .mk (.num i0) []]) := gd_op (d := 1) (by decide +kernel) ((gd_name sn).cons ((gd_num i0).cons Gds.nil))
      have gc : Gd 3 3 (.mk .call [.mk (.name x) [], lt]) := gd_call (d := 1) ((gd_name sx).cons (gl.cons Gds.nil))
      refine tg_pure (fun | 2 => .str x | 5 => lt.enc | 8 => (Tr.mk (.op "<") [.mk (.name "n") [], .mk (.num i0) []]).enc | 1 => s.enc | _ => (Tr.mk (.name x) []).enc) hh3 (And.intro ⟨_, rfl, .str x, rfl⟩ (And.intro ⟨_, rfl, mvT kh3 d5, flat_enc _⟩ (And.intro ⟨_, rfl, d8, flat_enc _⟩ (And.intro ⟨_, rfl, mvT kh3 e2, flat_enc _⟩ (And.intro ⟨_, rfl, mvT kh3 r2, flat_enc _⟩ (And.intro ⟨_, rfl, mvT kh3 d5, flat_enc _⟩ True.intro)))))) rfl fun v9 H9 kh9 hh9 d9 => ?_
      exact k v9 (.mk (.bind "let" [x]) [lt, .mk (.plain "if") [.mk (.op "<") [.mk (.name "n") [], .mk (.num i0) []], s, .mk .call [.mk (.name x) [], lt]]]) H9 ((kh02.trans kh3).trans kh9) hh9 d9
        ((gd_bind (d := 1 + d) (by decide) (all_cons sx all_nil) (gl.cons ((gd_if (d := d) (g8.cons (gs.cons (gc.cons Gds.nil)))).cons Gds.nil))).mono (by omega) (by omega))
    refine iteIne q ⟨_, rfl, rfl, _, rfl, ?_⟩
    by_cases q : p = 30
    · refine iteIeq q ⟨h, c, fun _ => lt.enc, fun _ => TreeS 3 3, hh2, And.intro ⟨_, rfl, d5, flat_enc _⟩ True.intro, And.intro (fun H3 kh3 hh3 => ex_gen rfl hh3 fun v' t H' kh' hh' dd g => ⟨kh', hh', t.enc, ⟨t, rfl, g⟩, flat_enc t, dd⟩) True.intro, fun v8 H3 τ kh3 hh3 als ft dp => ?_⟩
      obtain ⟨⟨so, e7, go⟩, _⟩ := als
      have dp' : Dp K H3 v8 (.tuple [.str "do", .tuple [lt.enc, .tuple [.str "op", .str "+", .tuple [(Tr.mk (.name "y") []).enc, τ 0]]]]) := dp
      rw [show τ 0 = so.enc from e7] at dp'
      have d8 : Dp K H3 v8 (Tr.mk .doo [lt, .mk (.op "+") [.mk (.name "y") [], so]]).enc := dp'
      have g8 : Gd 7 7 (.mk .doo [lt, .mk (.op "+") [.mk (.name "y") [], so]]) := gd_do (d := 5) (gl.cons ((gd_op (d := 3) (by decide +kernel) ((gd_name sy).cons (go.cons Gds.nil))).cons Gds.nil))
      refine tg_pure (fun | 2 => .str x | 9 => (Tr.mk .doo [lt, .mk (.op "+") [.mk (.name "y") [], so]]).enc | 4 => (Tr.mk (.name x) []).enc | _ => s.enc) hh3 (And.intro ⟨_, rfl, .str x, rfl⟩ (And.intro ⟨_, rfl, d8, flat_enc _⟩ (And.intro ⟨_, rfl, mvT kh3 r2, flat_enc _⟩ (And.intro ⟨_, rfl, mvT kh3 e2, flat_enc _⟩ True.intro)))) rfl fun v9 H9 kh9 hh9 d9 => ?_
      exact k v9 (.mk (.bind "rec" [x]) [.mk (.fn ["y"]) [.mk .doo [lt, .mk (.op "+") [.mk (.name "y") [], so]]], .mk .call [.mk (.name x) [], s]]) H9 ((kh02.trans kh3).trans kh9) hh9 d9
        ((gd_bind (d := 2 + d) (by decide) (all_cons sx all_nil) ((gd_fn (all_cons sy all_nil) g8).cons ((gd_call (d := d) ((gd_name sx).cons (gs.cons Gds.nil))).cons Gds.nil))).mono (by omega) (by omega))
    refine iteIne q (tg_pure (fun | 2 => .str x | 5 => lt.enc | 1 => s.enc | _ => (Tr.mk (.name x) []).enc) hh2 (And.intro ⟨_, rfl, .str x, rfl⟩ (And.intro ⟨_, rfl, d5, flat_enc _⟩ (And.intro ⟨_, rfl, e2, flat_enc _⟩ (And.intro ⟨_, rfl, r2, flat_enc _⟩ True.intro)))) rfl fun v9 H9 kh9 hh9 d9 => ?_)
    exact k v9 (.mk (.bind "let" [x, "y"]) [lt, s, .mk .doo [.mk (.plain "show") [.mk (.name x) []], .mk (.name "y") []]]) H9 (kh02.trans kh9) hh9 d9
      ((gd_bind (d := d) (by decide) (all_cons sx (all_cons sy all_nil)) (gl.cons (gs.cons ((gd_do (d := 2) ((gd_show (gd_name sx)).cons ((gd_name sy).cons Gds.nil))).cons Gds.nil)))).mono (by omega) (by omega))
end
end K13

namespace K13
open PySem L2 Cm
section
variable {P : Program} {w : World} {K : PySem.W.Frag} {mg : Str → Option Value} {base : Heap}
abbrev s_l_grown_rest : Stmt := top 24
abbrev N_l_grown_rest : List Str := ["_law_hand_here", "_law_inner", "_law_name", "_law_pick_here", "_law_read", "_law_go", "_law_literal", "_law_odd", "_law_asked", "_law_held", "_law_body", "_law_calm", "_law_out"]
theorem sc_l_grown_rest : FnScope N_l_grown_rest ["_law_hand_here", "_law_inner", "_law_name", "_law_pick_here"] (defScope s_l_grown_rest) := ⟨rfl, rfl, rfl, by decide +kernel, rfl, by decide +kernel, by decide +kernel⟩
theorem ok_l_grown_rest (T : Txt mg) (c_l_draw : Cl P w K mg base 2 "_law_draw" spDraw) (c_l_pick : Cl P w K mg base 3 "_law_pick" (spPick K)) (c_l_some_literal : Cl P w K mg base 3 "_law_some_literal" (spGenT K 1 1)) (c_l_go_again : Cl P w K mg base 4 "_law_go_again" (spGenT K 7 18)) (D : At K mg "_law_grown_rest" s_l_grown_rest ["_law_hand_here", "_law_inner", "_law_name", "_law_pick_here"]) : Cl P w K mg base 5 "_law_grown_rest" (spMore K) := by
  refine cl_of D sc_l_grown_rest (fun vs H Q E h => ?_) fun f cdv A outer s H vs Q E hr h => ?_
  · obtain ⟨h, c, v, x, p, s, d, n, rfl, _⟩ := h
    rfl
  · obtain ⟨h, c, v, x, p, s, d, n, rfl, hh, e0, gs, l7, sx, k⟩ := h
    refine ⟨_, (pss_cons (ps_set (i := 4) sc_l_grown_rest.nd rfl (Or.inl rfl) (pgx_tup (K := K) (pgx_cons pgx_str (pgx_cons (pgx_slot (pv 2)) pgx_nil))))
      (pss_cons (ps_set (i := 5) sc_l_grown_rest.nd rfl (Or.inl rfl) (pgx_tup (K := K) (pgx_cons pgx_str (pgx_cons (pgx_slot (pv 4)) (pgx_cons (pgx_tup (K := K) (pgx_cons (pgx_slot (pv 1)) pgx_nil)) pgx_nil)))))
      (pss_cons (ps_set (i := 6) sc_l_grown_rest.nd rfl (Or.inl rfl) (pe_c c_l_some_literal hr (by decide) (by rfl) (pa_cons (pv 0) pa_nil)))
      (pss_cons (ps_if (pt_cmpR op_eq (pv 3) pe_int (nomark _))
        (pss_one (ps_ret (pgx_tup (K := K) (pgx_cons pgx_str (pgx_cons (pgx_slot (pv 2)) (pgx_cons (pgx_slot (pv 1)) pgx_nil))))))
        pss_nil)
      (pss_cons (ps_if (pt_cmpR op_lt (pv 3) pe_int (nomark _))
        (pss_one (ps_ret (pgx_tup (K := K) (pgx_cons (pgx_ex 0 (pe_c c_l_pick hr (by decide) (by rfl) (pa_cons (pv 0) (pa_cons (pgx_tup (K := K) (pgx_cons pgx_str (pgx_cons pgx_str (pgx_cons pgx_str pgx_nil)))) pa_nil)))) (pgx_cons (pgx_slot (pv 2)) (pgx_cons (pgx_slot (pv 5)) pgx_nil))))))
        pss_nil)
      (pss_cons (ps_if (pt_cmpR op_lt (pv 3) pe_int (nomark _))
        (pss_one (ps_ret (pgx_tup (K := K) (pgx_cons pgx_str (pgx_cons (pgx_slot (pv 2)) (pgx_cons (pgx_slot (pv 5)) pgx_nil))))))
        pss_nil)
      (pss_cons (ps_if (pt_cmpR op_eq (pv 3) pe_int (nomark _))
        (pss_one (ps_ret (pgx_tup (K := K) (pgx_cons pgx_str (pgx_cons (pgx_tup (K := K) (pgx_cons pgx_str (pgx_cons (pgx_slot (pv 2)) (pgx_cons (pgx_tup (K := K) (pgx_cons pgx_str (pgx_cons pgx_str (pgx_cons (pgx_tup (K := K) (pgx_cons (pgx_slot (pv 5)) (pgx_cons (pgx_slot (pv 6)) pgx_nil))) pgx_nil)))) pgx_nil)))) pgx_nil)))))
        pss_nil)
      (pss_cons (ps_if (pt_cmpR op_eq (pv 3) pe_int (nomark _))
        (pss_cons (ps_set (i := 7) sc_l_grown_rest.nd rfl (Or.inl rfl) (pe_c c_l_pick hr (by decide) (by rfl) (pa_cons (pv 0) (pa_cons (pgx_tup (K := K) (pgx_cons (pgx_tup (K := K) (pgx_cons pgx_str (pgx_cons (pgx_slot (pv 4)) pgx_nil))) (pgx_cons (pgx_tup (K := K) (pgx_cons pgx_str (pgx_cons pgx_str (pgx_cons (pgx_tup (K := K) (pgx_cons (pgx_slot (pv 4)) pgx_nil)) pgx_nil)))) (pgx_cons (pgx_tup (K := K) (pgx_cons pgx_str (pgx_cons (pgx_slot (pv 2)) (pgx_cons (pgx_slot (pv 6)) pgx_nil)))) pgx_nil)))) pa_nil))))
        (pss_one (ps_ret (pgx_tup (K := K) (pgx_cons pgx_str (pgx_cons (pgx_tup (K := K) (pgx_cons pgx_str (pgx_cons (pgx_slot (pv 2)) (pgx_cons (pgx_tup (K := K) (pgx_cons pgx_str (pgx_cons (pgx_tup (K := K) (pgx_cons (pgx_slot (pv 7)) (pgx_cons (pgx_slot (pv 1)) pgx_nil))) pgx_nil))) pgx_nil)))) pgx_nil))))))
        pss_nil)
      (pss_cons (ps_if (pt_cmpR op_eq (pv 3) pe_int (nomark _))
        (pss_cons (ps_set (i := 8) sc_l_grown_rest.nd rfl (Or.inl rfl) (pgx_tup (K := K) (pgx_cons pgx_str (pgx_cons (pgx_tup (K := K) (pgx_cons pgx_str (pgx_cons pgx_str (pgx_cons (pgx_tup (K := K) (pgx_cons (pgx_slot (pv 4)) pgx_nil)) pgx_nil)))) pgx_nil))))
        (pss_one (ps_ret (pgx_tup (K := K) (pgx_cons (pgx_ex 0 (pe_c c_l_pick hr (by decide) (by rfl) (pa_cons (pv 0) (pa_cons (pgx_tup (K := K) (pgx_cons pgx_str (pgx_cons pgx_str pgx_nil))) pa_nil)))) (pgx_cons (pgx_slot (pv 2)) (pgx_cons (pgx_tup (K := K) (pgx_cons pgx_str (pgx_cons (pgx_slot (pv 4)) (pgx_cons (pgx_tup (K := K) (pgx_cons (pgx_tup (K := K) (pgx_cons pgx_str (pgx_cons (pgx_tup (K := K) (pgx_cons (pgx_slot (pv 8)) (pgx_cons (pgx_slot (pv 1)) pgx_nil))) pgx_nil))) pgx_nil)) pgx_nil)))) pgx_nil)))))))
        pss_nil)
      (pss_cons (ps_if (pt_cmpR op_eq (pv 3) pe_int (nomark _))
        (pss_cons (ps_set (i := 9) sc_l_grown_rest.nd rfl (Or.inl rfl) (pgx_tup (K := K) (pgx_cons pgx_str (pgx_cons (pgx_tup (K := K) (pgx_cons (pgx_tup (K := K) (pgx_cons pgx_str (pgx_cons pgx_str (pgx_cons (pgx_tup (K := K) (pgx_cons pgx_str (pgx_cons pgx_str pgx_nil))) pgx_nil)))) (pgx_cons (pgx_tup (K := K) (pgx_cons pgx_str (pgx_cons pgx_int pgx_nil))) pgx_nil))) pgx_nil))))
        (pss_one (ps_ret (pgx_tup (K := K) (pgx_cons pgx_str (pgx_cons (pgx_tup (K := K) (pgx_cons pgx_str (pgx_cons pgx_str (pgx_cons (pgx_tup (K := K) (pgx_cons (pgx_slot (pv 1)) (pgx_cons (pgx_tup (K := K) (pgx_cons pgx_str (pgx_cons pgx_str (pgx_cons (pgx_slot (pv 9)) pgx_nil)))) pgx_nil))) pgx_nil)))) pgx_nil))))))
        pss_nil)
      (pss_cons (ps_if (pt_cmpR op_eq (pv 3) pe_int (nomark _))
        (pss_cons (ps_set (i := 10) sc_l_grown_rest.nd rfl (Or.inl rfl) (pgx_tup (K := K) (pgx_cons pgx_str (pgx_cons (pgx_tup (K := K) (pgx_cons pgx_str (pgx_cons pgx_str pgx_nil))) (pgx_cons (pgx_tup (K := K) (pgx_cons (pgx_tup (K := K) (pgx_cons pgx_str (pgx_cons (pgx_tup (K := K) (pgx_cons pgx_str (pgx_cons pgx_str pgx_nil))) (pgx_cons (pgx_tup (K := K) (pgx_cons (pgx_tup (K := K) (pgx_cons pgx_str (pgx_cons pgx_int pgx_nil))) pgx_nil)) pgx_nil)))) pgx_nil)) pgx_nil)))))
        (pss_one (ps_ret (pgx_tup (K := K) (pgx_cons pgx_str (pgx_cons (pgx_tup (K := K) (pgx_cons (pgx_tup (K := K) (pgx_cons pgx_str (pgx_cons pgx_str (pgx_cons (pgx_slot (pv 10)) pgx_nil)))) (pgx_cons (pgx_slot (pv 1)) pgx_nil))) pgx_nil))))))
        pss_nil)
      (pss_cons (ps_if (pt_cmpR op_gt (pv 3) pe_int (nomark _))
        (pss_cons (ps_set (i := 9) sc_l_grown_rest.nd rfl (Or.inl rfl) (pgx_tup (K := K) (pgx_cons pgx_str (pgx_cons (pgx_tup (K := K) (pgx_cons (pgx_tup (K := K) (pgx_cons pgx_str (pgx_cons pgx_str (pgx_cons (pgx_tup (K := K) (pgx_cons pgx_str (pgx_cons pgx_str pgx_nil))) pgx_nil)))) (pgx_cons (pgx_slot (pv 1)) pgx_nil))) pgx_nil))))
        (pss_one (ps_ret (pgx_tup (K := K) (pgx_cons (pgx_ex 0 (pe_c c_l_pick hr (by decide) (by rfl) (pa_cons (pv 0) (pa_cons (pgx_tup (K := K) (pgx_cons pgx_str (pgx_cons pgx_str (pgx_cons pgx_str pgx_nil)))) pa_nil)))) (pgx_cons pgx_str (pgx_cons (pgx_slot (pv 9)) pgx_nil)))))))
        pss_nil)
      (pss_cons (ps_set (i := 9) sc_l_grown_rest.nd rfl (Or.inl rfl) (pgx_tup (K := K) (pgx_cons pgx_str (pgx_cons (pgx_tup (K := K) (pgx_cons pgx_str pgx_nil)) (pgx_cons (pgx_tup (K := K) (pgx_cons pgx_str (pgx_cons (pgx_tup (K := K) (pgx_cons pgx_str (pgx_cons pgx_str pgx_nil))) (pgx_cons (pgx_tup (K := K) (pgx_cons (pgx_tup (K := K) (pgx_cons pgx_str (pgx_cons pgx_str (pgx_cons (pgx_tup (K := K) (pgx_cons pgx_str (pgx_cons pgx_str pgx_nil))) pgx_nil)))) pgx_nil)) pgx_nil)))) pgx_nil)))))
      (pss_cons (ps_set (i := 11) sc_l_grown_rest.nd rfl (Or.inl rfl) (pe_c c_l_pick hr (by decide) (by rfl) (pa_cons (pv 0) (pa_cons (pgx_tup (K := K) (pgx_cons (pgx_tup (K := K) (pgx_cons pgx_str (pgx_cons pgx_str (pgx_cons (pgx_tup (K := K) (pgx_cons (pgx_tup (K := K) (pgx_cons pgx_str (pgx_cons pgx_int pgx_nil))) (pgx_cons (pgx_slot (pv 6)) pgx_nil))) pgx_nil)))) (pgx_cons (pgx_tup (K := K) (pgx_cons pgx_str (pgx_cons (pgx_tup (K := K) (pgx_cons (pgx_slot (pv 9)) (pgx_cons (pgx_slot (pv 6)) pgx_nil))) pgx_nil))) pgx_nil))) pa_nil))))
      (pss_cons (ps_set (i := 10) sc_l_grown_rest.nd rfl (Or.inl rfl) (pe_c c_l_pick hr (by decide) (by rfl) (pa_cons (pv 0) (pa_cons (pgx_tup (K := K) (pgx_cons (pgx_tup (K := K) (pgx_cons pgx_str (pgx_cons (pgx_slot (pv 1)) pgx_nil))) (pgx_cons (pgx_slot (pv 11)) (pgx_cons (pgx_slot (pv 1)) (pgx_cons (pgx_slot (pv 1)) pgx_nil))))) pa_nil))))
      (pss_cons (ps_set (i := 12) sc_l_grown_rest.nd rfl (Or.inl rfl) (pe_ifExp (pt_cmpR op_gt (pe_c c_l_draw hr (by decide) (by rfl) (pa_cons (pv 0) (pa_cons pe_int pa_nil))) pe_int (nomark _)) (pgx_tup (K := K) (pgx_cons pgx_str (pgx_cons (pgx_tup (K := K) (pgx_cons pgx_str (pgx_cons pgx_int pgx_nil))) pgx_nil))) (pe_c c_l_go_again hr (by decide) (by rfl) (pa_cons (pv 0) pa_nil))))
      (pss_one (ps_ret (pgx_tup (K := K) (pgx_cons pgx_str (pgx_cons (pgx_tup (K := K) (pgx_cons pgx_str (pgx_cons (pgx_tup (K := K) pgx_nil) (pgx_cons (pgx_tup (K := K) (pgx_cons pgx_str (pgx_cons (pgx_tup (K := K) (pgx_cons pgx_str (pgx_cons pgx_int pgx_nil))) pgx_nil))) pgx_nil)))) (pgx_cons (pgx_slot (pv 10)) (pgx_cons (pgx_tup (K := K) (pgx_cons pgx_str (pgx_cons (pgx_tup (K := K) pgx_nil) (pgx_cons (pgx_slot (pv 12)) pgx_nil)))) pgx_nil))))))))))))))))))))))), ?_⟩
    have sw : sok "w" := by decide +kernel
    have sj : sok "j" := by decide +kernel
    have sk : sok "k" := by decide +kernel
    have sa : sok "a" := by decide +kernel
    have gx := gd_name sx
    have gw := gd_name sw
    refine tg_pure (fun _ => .str x) hh (And.intro ⟨_, rfl, .str x, rfl⟩ True.intro) rfl fun v4 H1 kh1 hh1 d4 => ?_
    have r1 : Dp K H1 v4 (Tr.mk (.name x) []).enc := d4
    refine tg_pure (fun | 4 => (Tr.mk (.name x) []).enc | _ => s.enc) hh1 (And.intro ⟨_, rfl, r1, flat_enc _⟩ (And.intro ⟨_, rfl, mvT kh1 e0, flat_enc _⟩ True.intro)) rfl fun v5 H2 kh2 hh2 d5 => ?_
    have g2 : Dp K H2 v5 (Tr.mk .call [.mk (.name x) [], s]).enc := d5
    have gg : Gd (2 + d) (n + 2) (.mk .call [.mk (.name x) [], s]) := (gd_call (d := d) (gx.cons (gs.cons Gds.nil))).mono (by omega) (by omega)
    refine ex_gen rfl hh2 fun v6 lt H3 kh3 hh3 l3 gl => ?_
    have kh03 := (kh1.trans kh2).trans kh3
    have e3 := mvT kh03 e0
    have r3 := mvT (kh2.trans kh3) r1
    have g3 := mvT kh3 g2
    have fin : ∀ (u : V) (t : Tr) (H4 : Hp), Kh h H3 H4 → Hand H4 h c → Dp K H4 u t.enc → Gd (6 + d) (n + 30) t → Q u H4 := fun u t H4 kh4 hh4 dd gt => k u t H4 (kh03.trans kh4) hh4 dd gt
    clear k
    generalize (Tr.mk .call [.mk (.name x) [], s]) = gt at *
    have hw1 : ∀ w ∈ (["keep", "take", "once"] : List Str), w ∈ oneW := by decide
    have hw2 : ∀ w ∈ (["keep", "take"] : List Str), w ∈ oneW := by decide
    have hw3 : ∀ w ∈ (["keep", "keep", "once"] : List Str), w ∈ oneW := by decide
    refine ⟨_, rfl, rfl, _, rfl, ?_⟩
    by_cases q : p = 14
    · refine iteIeq q (tg_pure (fun | 2 => .str x | _ => s.enc) hh3 (And.intro ⟨_, rfl, .str x, rfl⟩ (And.intro ⟨_, rfl, e3, flat_enc _⟩ True.intro)) rfl fun v9 H9 kh9 hh9 d9 => ?_)
      exact fin v9 (.mk (.one "keep" x) [s]) H9 kh9 hh9 d9 ((gd_one (by decide) sx gs).mono (by omega) (by omega))
    refine iteIne q ⟨_, rfl, _, _, rfl, rfl, _, rfl, ?_⟩
    by_cases q : p < 17
    · rw [decide_eq_true q]
      refine iteT ⟨h, c, fun | 2 => .str x | _ => gt.enc, fun _ => WordS ["keep", "take", "once"], hh3, And.intro ⟨_, rfl, .str x, rfl⟩ (And.intro ⟨_, rfl, g3, flat_enc _⟩ True.intro), And.intro (fun H4 kh4 hh4 => ?_) True.intro, fun v9 H9 τ kh9 hh9 als ft dp => ?_⟩
      · exact ex_pick (fun _ => .int 0) rfl hh4 True.intro rfl (by intro z; cases z) (by decide) fun v' H' d m kh' hh' f dd => ⟨kh', hh', d, words_of (ws := ["keep", "take", "once"]) m, f, dd⟩
      · obtain ⟨⟨wk, hwk, e9⟩, _⟩ := als
        have dp' : Dp K H9 v9 (.tuple [τ 0, .str x, gt.enc]) := dp
        rw [show τ 0 = .str wk from e9] at dp'
        exact fin v9 (.mk (.one wk x) [gt]) H9 kh9 hh9 dp' ((gd_one (hw1 wk hwk) sx gg).mono (by omega) (by omega))
    rw [decide_eq_false q]
    refine iteF ⟨_, rfl, _, _, rfl, rfl, _, rfl, ?_⟩
    by_cases q : p < 19
    · rw [decide_eq_true q]
      refine iteT (tg_pure (fun | 2 => .str x | _ => gt.enc) hh3 (And.intro ⟨_, rfl, .str x, rfl⟩ (And.intro ⟨_, rfl, g3, flat_enc _⟩ True.intro)) rfl fun v9 H9 kh9 hh9 d9 => ?_)
      exact fin v9 (.mk (.one "take" x) [gt]) H9 kh9 hh9 d9 ((gd_one (by decide) sx gg).mono (by omega) (by omega))
    rw [decide_eq_false q]
    refine iteF ⟨_, rfl, rfl, _, rfl, ?_⟩
    by_cases q : p = 19
    · refine iteIeq q (tg_pure (fun | 2 => .str x | 5 => gt.enc | _ => lt.enc) hh3 (And.intro ⟨_, rfl, .str x, rfl⟩ (And.intro ⟨_, rfl, g3, flat_enc _⟩ (And.intro ⟨_, rfl, l3, flat_enc _⟩ True.intro))) rfl fun v9 H9 kh9 hh9 d9 => ?_)
      exact fin v9 (.mk (.plain "mark") [.mk (.one "take" x) [.mk (.op "+") [gt, lt]]]) H9 kh9 hh9 d9 ((gd_mark (gd_one (by decide) sx (gd_op (d := 2 + d) (by decide +kernel) (gg.cons (gl.cons Gds.nil))))).mono (by omega) (by omega))
    refine iteIne q ⟨_, rfl, rfl, _, rfl, ?_⟩
    by_cases q : p = 20
    · refine iteIeq q (ex_pick (fun | 2 => .str x | 6 => lt.enc | _ => (Tr.mk (.name x) []).enc) rfl hh3 (And.intro ⟨_, rfl, r3, flat_enc _⟩ (And.intro ⟨_, rfl, r3, flat_enc _⟩ (And.intro ⟨_, rfl, .str x, rfl⟩ (And.intro ⟨_, rfl, l3, flat_enc _⟩ True.intro)))) rfl (by intro z; cases z) (by decide) fun v7 H4 d7 m7 kh4 hh4 f7 dd7 => ?_)
      obtain ⟨ot, rfl, go⟩ : TreeS 3 2 d7 := trees_of (ts := [.mk (.plain "show") [.mk (.name x) []], .mk (.op "rest?") [.mk (.name x) []], .mk (.one "set" x) [lt]]) m7
        (all_cons ((gd_show gx).mono (by omega) (by omega)) (all_cons (gd_op (d := 1) (by decide +kernel) (gx.cons Gds.nil)) (all_cons ((gd_one (by decide) sx gl).mono (by omega) (by omega)) all_nil)))
      refine tg_pure (fun | 2 => .str x | 7 => ot.enc | _ => s.enc) hh4 (And.intro ⟨_, rfl, .str x, rfl⟩ (And.intro ⟨_, rfl, dd7, flat_enc _⟩ (And.intro ⟨_, rfl, mvT kh4 e3, flat_enc _⟩ True.intro))) rfl fun v9 H9 kh9 hh9 d9 => ?_
      exact fin v9 (.mk (.plain "mark") [.mk (.one "take" x) [.mk .doo [ot, s]]]) H9 (kh4.trans kh9) hh9 d9 ((gd_mark (gd_one (by decide) sx (gd_do (d := d) (go.cons (gs.cons Gds.nil))))).mono (by omega) (by omega))
    refine iteIne q ⟨_, rfl, rfl, _, rfl, ?_⟩
    by_cases q : p = 21
    · refine iteIeq q (tg_pure (fun _ => (Tr.mk (.name x) []).enc) hh3 (And.intro ⟨_, rfl, r3, flat_enc _⟩ True.intro) rfl fun v8 H4 kh4 hh4 d8 => ?_)
      have d8' : Dp K H4 v8 (Tr.mk (.plain "show") [.mk (.op "rest?") [.mk (.name x) []]]).enc := d8
      have g8 : Gd 4 3 (.mk (.plain "show") [.mk (.op "rest?") [.mk (.name x) []]]) := gd_show (gd_op (d := 1) (by decide +kernel) (gx.cons Gds.nil))
      generalize (Tr.mk (.plain "show") [.mk (.op "rest?") [.mk (.name x) []]]) = at' at *
      refine ⟨h, c, fun | 2 => .str x | 4 => (Tr.mk (.name x) []).enc | 8 => at'.enc | _ => s.enc, fun _ => WordS ["keep", "take"], hh4, And.intro ⟨_, rfl, .str x, rfl⟩ (And.intro ⟨_, rfl, mvT kh4 r3, flat_enc _⟩ (And.intro ⟨_, rfl, d8', flat_enc _⟩ (And.intro ⟨_, rfl, mvT kh4 e3, flat_enc _⟩ True.intro))), And.intro (fun H5 kh5 hh5 => ?_) True.intro, fun v9 H9 τ kh9 hh9 als ft dp => ?_⟩
      · exact ex_pick (fun _ => .int 0) rfl hh5 True.intro rfl (by intro z; cases z) (by decide) fun v' H' d m kh' hh' f dd => ⟨kh', hh', d, words_of (ws := ["keep", "take"]) m, f, dd⟩
      · obtain ⟨⟨wk, hwk, e9⟩, _⟩ := als
        have dp' : Dp K H9 v9 (.tuple [τ 0, .str x, (Tr.mk .call [.mk (.name x) [], .mk .doo [at', s]]).enc]) := dp
        rw [show τ 0 = .str wk from e9] at dp'
        exact fin v9 (.mk (.one wk x) [.mk .call [.mk (.name x) [], .mk .doo [at', s]]]) H9 (kh4.trans kh9) hh9 dp' ((gd_one (hw2 wk hwk) sx (gd_call (d := 2 + d) (gx.cons ((gd_do (d := d) (g8.cons (gs.cons Gds.nil))).cons Gds.nil)))).mono (by omega) (by omega))
    refine iteIne q ⟨_, rfl, rfl, _, rfl, ?_⟩
    by_cases q : p = 22
    · refine iteIeq q (tg_pure (fun _ => .int 0) hh3 True.intro rfl fun v8 H4 kh4 hh4 d8 => ?_)
      have d8' : Dp K H4 v8 (Tr.mk .doo [.mk (.one "set" "j") [.mk (.name "w") []], .mk (.num 6) []]).enc := d8
      have g8 : Gd 4 4 (.mk .doo [.mk (.one "set" "j") [.mk (.name "w") []], .mk (.num 6) []]) := gd_do (d := 2) ((gd_one (by decide) sj gw).cons ((gd_num 6).cons Gds.nil))
      generalize (Tr.mk .doo [.mk (.one "set" "j") [.mk (.name "w") []], .mk (.num 6) []]) = at' at *
      refine tg_pure (fun | 1 => s.enc | _ => at'.enc) hh4 (And.intro ⟨_, rfl, mvT kh4 e3, flat_enc _⟩ (And.intro ⟨_, rfl, d8', flat_enc _⟩ True.intro)) rfl fun v9 H9 kh9 hh9 d9 => ?_
      exact fin v9 (.mk (.plain "mark") [.mk (.op "+") [s, .mk (.one "take" "w") [at']]]) H9 (kh4.trans kh9) hh9 d9 ((gd_mark (gd_op (d := d) (by decide +kernel) (gs.cons ((gd_one (by decide) sw g8).cons Gds.nil)))).mono (by omega) (by omega))
    refine iteIne q ⟨_, rfl, rfl, _, rfl, ?_⟩
    by_cases q : p = 23
    · refine iteIeq q (tg_pure (fun _ => .int 0) hh3 True.intro rfl fun v8 H4 kh4 hh4 d8 => ?_)
      have d8' : Dp K H4 v8 (Tr.mk .call [.mk (.name "w") [], .mk .call [.mk (.name "w") [], .mk (.num 2) []]]).enc := d8
      have g8 : Gd 5 5 (.mk .call [.mk (.name "w") [], .mk .call [.mk (.name "w") [], .mk (.num 2) []]]) := gd_call (d := 3) (gw.cons ((gd_call (d := 1) (gw.cons ((gd_num 2).cons Gds.nil))).cons Gds.nil))
      generalize (Tr.mk .call [.mk (.name "w") [], .mk .call [.mk (.name "w") [], .mk (.num 2) []]]) = at' at *
      refine tg_pure (fun | 1 => s.enc | _ => at'.enc) hh4 (And.intro ⟨_, rfl, d8', flat_enc _⟩ (And.intro ⟨_, rfl, mvT kh4 e3, flat_enc _⟩ True.intro)) rfl fun v9 H9 kh9 hh9 d9 => ?_
      exact fin v9 (.mk .doo [.mk (.one "take" "w") [at'], s]) H9 (kh4.trans kh9) hh9 d9 ((gd_do (d := d) ((gd_one (by decide) sw g8).cons (gs.cons Gds.nil))).mono (by omega) (by omega))
    refine iteIne q ⟨_, rfl, _, _, rfl, rfl, _, rfl, ?_⟩
    by_cases q : p > 25
    · rw [decide_eq_true q]
      refine iteT (tg_pure (fun _ => s.enc) hh3 (And.intro ⟨_, rfl, e3, flat_enc _⟩ True.intro) rfl fun v8 H4 kh4 hh4 d8 => ?_)
      have d8' : Dp K H4 v8 (Tr.mk .doo [.mk (.one "set" "k") [.mk (.name "w") []], s]).enc := d8
      have g8 : Gd (2 + d) (n + 3) (.mk .doo [.mk (.one "set" "k") [.mk (.name "w") []], s]) := (gd_do (d := d) ((gd_one (by decide) sk gw).cons (gs.cons Gds.nil))).mono (by omega) (by omega)
      generalize (Tr.mk .doo [.mk (.one "set" "k") [.mk (.name "w") []], s]) = at' at *
      refine ⟨h, c, fun _ => at'.enc, fun _ => WordS ["keep", "keep", "once"], hh4, And.intro ⟨_, rfl, d8', flat_enc _⟩ True.intro, And.intro (fun H5 kh5 hh5 => ?_) True.intro, fun v9 H9 τ kh9 hh9 als ft dp => ?_⟩
      · exact ex_pick (fun _ => .int 0) rfl hh5 True.intro rfl (by intro z; cases z) (by decide) fun v' H' d m kh' hh' f dd => ⟨kh', hh', d, words_of (ws := ["keep", "keep", "once"]) m, f, dd⟩
      · obtain ⟨⟨wk, hwk, e9⟩, _⟩ := als
        have dp' : Dp K H9 v9 (.tuple [τ 0, .str "w", at'.enc]) := dp
        rw [show τ 0 = .str wk from e9] at dp'
        exact fin v9 (.mk (.one wk "w") [at']) H9 (kh4.trans kh9) hh9 dp' ((gd_one (hw3 wk hwk) sw g8).mono (by omega) (by omega))
    rw [decide_eq_false q]
    refine iteF (tg_pure (fun _ => .int 0) hh3 True.intro rfl fun v8 H4 kh4 hh4 d8 => ?_)
    have d8' : Dp K H4 v8 (Tr.mk (.fn ["a"]) [.mk .call [.mk (.name "a") [], .mk (.one "take" "w") [.mk (.name "w") []]]]).enc := d8
    have g8 : Gd 5 5 (.mk (.fn ["a"]) [.mk .call [.mk (.name "a") [], .mk (.one "take" "w") [.mk (.name "w") []]]]) := gd_fn (all_cons sa all_nil) (gd_call (d := 2) ((gd_name sa).cons ((gd_one (by decide) sw gw).cons Gds.nil)))
    generalize (Tr.mk (.fn ["a"]) [.mk .call [.mk (.name "a") [], .mk (.one "take" "w") [.mk (.name "w") []]]]) = ht at *
    refine ex_pick (fun | 6 => lt.enc | _ => ht.enc) rfl hh4 (And.intro ⟨_, rfl, mvT kh4 l3, flat_enc _⟩ (And.intro ⟨_, rfl, d8', flat_enc _⟩ (And.intro ⟨_, rfl, mvT kh4 l3, flat_enc _⟩ True.intro))) rfl (by intro z; cases z) (by decide) fun v11 H5 d11 m11 kh5 hh5 f11 dd11 => ?_
    obtain ⟨ct, rfl, gc⟩ : TreeS 7 7 d11 := trees_of (ts := [.mk (.op "+") [.mk (.num 1) [], lt], .mk .doo [ht, lt]]) m11
      (all_cons ((gd_op (d := 1) (by decide +kernel) ((gd_num 1).cons (gl.cons Gds.nil))).mono (by omega) (by omega)) (all_cons (gd_do (d := 5) (g8.cons (gl.cons Gds.nil))) all_nil))
    have kh35 := kh4.trans kh5
    have e5 := mvT kh35 e3
    refine ex_pick (fun | 11 => ct.enc | _ => s.enc) rfl hh5 (And.intro ⟨_, rfl, e5, flat_enc _⟩ (And.intro ⟨_, rfl, dd11, flat_enc _⟩ (And.intro ⟨_, rfl, e5, flat_enc _⟩ (And.intro ⟨_, rfl, e5, flat_enc _⟩ True.intro)))) rfl (by intro z; cases z) (by decide) fun v10 H6 d10 m10 kh6 hh6 f10 dd10 => ?_
    obtain ⟨bt, rfl, gb⟩ : TreeS (1 + d) (n + 7) d10 := trees_of (ts := [.mk (.plain "mark") [s], ct, s, s]) m10
      (all_cons ((gd_mark gs).mono (by omega) (by omega)) (all_cons (gc.mono (by omega) (by omega)) (all_cons (gs.mono (by omega) (by omega)) (all_cons (gs.mono (by omega) (by omega)) all_nil))))
    have kh36 := kh35.trans kh6
    refine ex_draw rfl hh6 (by decide) (by decide) fun m H7 _ _ kh7 hh7 => ?_
    have last : ∀ (v12 : V) (ot : Tr) (H8 : Hp), Kh h H7 H8 → Hand H8 h c → Dp K H8 v12 ot.enc → Gd 7 18 ot → tG K (.tup [.str "wind", .tup [.str "fn", .tup [], .tup [.str "show", .tup [.str "number", .int 21]]], .slot 10, .tup [.str "fn", .tup [], .slot 12]]) [some (.ref h), some v, some (.str x), some (.int p), some v4, some v5, some v6, none, none, some v8, some v10, some v11, some v12] H8 Q := fun v12 ot H8 kh8 hh8 d12 go => by
      refine tg_pure (fun | 10 => bt.enc | _ => ot.enc) hh8 (And.intro ⟨_, rfl, mvT (kh7.trans kh8) dd10, flat_enc _⟩ (And.intro ⟨_, rfl, d12, flat_enc _⟩ True.intro)) rfl fun v9 H9 kh9 hh9 d9 => ?_
      exact fin v9 (.mk (.plain "wind") [.mk (.fn []) [.mk (.plain "show") [.mk (.num 21) []]], bt, .mk (.fn []) [ot]]) H9 (((kh36.trans kh7).trans kh8).trans kh9) hh9 d9
        ((gd_wind (d := 1 + d) (((gd_fn all_nil (gd_show (gd_num 21)))).cons (gb.cons ((gd_fn all_nil go).cons Gds.nil)))).mono (by omega) (by omega))
    refine ⟨_, _, rfl, rfl, _, rfl, ?_⟩
    by_cases q : m > 0
    · rw [decide_eq_true q]
      refine iteT (tg_pure (fun _ => .int 0) hh7 True.intro rfl fun v12 H8 kh8 hh8 d12 => ?_)
      exact last v12 (.mk (.plain "show") [.mk (.num 22) []]) H8 kh8 hh8 d12 ((gd_show (gd_num 22)).mono (by omega) (by omega))
    · rw [decide_eq_false q]
      exact iteF (ex_gen rfl hh7 fun v12 ot H8 kh8 hh8 d12 go => last v12 ot H8 kh8 hh8 d12 go)
end
end K13

namespace K13
open PySem L2 Cm
/-- a tree grown as deep as a number says -/
def spGrown (K : PySem.W.Frag) (m : Nat) : Sp := fun vs H Q _ => ∃ (h c : Addr) (j : Nat), vs = [.ref h, .int (j : Int)] ∧ Hand H h c ∧ j < m ∧ j ≤ 7 ∧
  ∀ (u : V) (t : Tr) (H' : Hp), Kh h H H' → Hand H' h c → Dp K H' u t.enc → Gd (7 + 6 * j) (18 + 30 * j) t → Q u H'
theorem flat_trees (ts : List Tr) : flatDs (ts.map Tr.enc) = true := by
  have := flat_encL ts
  rw [encL_map] at this
  exact this
theorem z_ok {i : Int} (a : 1 ≤ i) (b : i ≤ 7) : i.natAbs.log2 < 1920 ∧ sok (("z" : Str) ++ (toString i : Str)) ∧ ("z" : Str).length + (toString i : Str).length ≤ sizeLine := by
  have : i = 1 ∨ i = 2 ∨ i = 3 ∨ i = 4 ∨ i = 5 ∨ i = 6 ∨ i = 7 := by omega
  rcases this with rfl | rfl | rfl | rfl | rfl | rfl | rfl <;> decide +kernel
/-- the list of forms so far -/
structure FmS (K : PySem.W.Frag) (H0 H : Hp) (F : Addr) (us : List V) (ts : List Tr) : Prop where
  n0 : H0 F = none
  hF : H F = some (.lst us)
  al : DpAll K H us (ts.map Tr.enc)
theorem FmS.kp {K : PySem.W.Frag} {H0 H H' : Hp} {F h c : Addr} {us : List V} {ts : List Tr} (f : FmS K H0 H F us ts) (hh0 : Hand H0 h c) (kh : Kh h H H') : FmS K H0 H' F us ts :=
  ⟨f.n0, kh.st _ _ (hh0.there f.n0).1 f.hF, dps_keep (fun _ _ q => kh.tup q) _ _ (flat_trees ts) f.al⟩
theorem kh_free {H0 H : Hp} {h r : Addr} (kh : Kh h H0 H) (hr : H r = none) : H0 r = none := by
  cases e : H0 r with
  | none => rfl
  | some o =>
    by_cases q : r = h
    · obtain ⟨xs, e2⟩ := kh.l2 r q
      rw [hr] at e2
      cases e2
    · have := kh.st r o q e
      rw [hr] at this
      cases this
/-- two lists of trees made one -/
theorem fm_cat {K : PySem.W.Frag} {H0 H : Hp} {F p h c : Addr} {us zs : List V} {ts us' : List Tr} {Q : VK} (f : FmS K H0 H F us ts) (kh : Kh h H0 H) (hh : Hand H h c) (hp : H p = none) (hz : DpAll K H zs (us'.map Tr.enc)) (l1 : ts.length ≤ 100) (l2 : us'.length ≤ 100)
    (k : ∀ (r : Addr) (H' : Hp), Kh h H0 H' → Hand H' h c → FmS K H0 H' r (us ++ zs) (ts ++ us') → Q (.ref r) H') : rCat (.ref F) (.ref p) (upd H p (.lst zs)) Q := by
  have s1 := same_new (o := .lst zs) hp
  have e1 := DpAll.len f.al
  have e2 := DpAll.len hz
  rw [List.length_map] at e1 e2
  refine ⟨F, p, us, zs, rfl, rfl, s1 _ _ f.hF, upd_same, Nat.le_trans (show us.length + zs.length ≤ 200 by omega) (by decide), fun r hr => ?_⟩
  have s2 := same_new (o := .lst (us ++ zs)) hr
  have k1 := kh.trans (hh.kh s1)
  refine k r _ (k1.trans ((hh.same s1).kh s2)) ((hh.same s1).same s2) ⟨kh_free k1 hr, upd_same, ?_⟩
  rw [List.map_append]
  exact dps_same s2 _ _ (DpAll.app (dps_same s1 _ _ f.al) (dps_same s1 _ _ hz))
section
variable {P : Program} {w : World} {K : PySem.W.Frag} {mg : Str → Option Value} {base : Heap}
abbrev s_l_grown : Stmt := top 22
abbrev N_l_grown : List Str := ["_law_hand_here", "_law_deep", "_law_inner", "_law_name", "_law_pick_here", "_law_literal", "_law_calm", "_law_read", "_law_number", "_law_change", "_law_forms", "_law_fun"]
theorem sc_l_grown : FnScope N_l_grown ["_law_hand_here", "_law_deep"] (defScope s_l_grown) := ⟨rfl, rfl, rfl, by decide +kernel, rfl, by decide +kernel, by decide +kernel⟩
theorem ok_l_grown (T : Txt mg) (c_l_draw : Cl P w K mg base 2 "_law_draw" spDraw) (c_l_some_literal : Cl P w K mg base 3 "_law_some_literal" (spGenT K 1 1)) (c_l_some_calm : Cl P w K mg base 4 "_law_some_calm" (spGenT K 5 4)) (c_l_some_op : Cl P w K mg base 4 "_law_some_op" (spGenT K 3 3)) (c_l_go_again : Cl P w K mg base 4 "_law_go_again" (spGenT K 7 18))
    (c_l_grown_more : Cl P w K mg base 5 "_law_grown_more" (spMore K)) (c_l_grown_rest : Cl P w K mg base 5 "_law_grown_rest" (spMore K)) (D : At K mg "_law_grown" s_l_grown ["_law_hand_here", "_law_deep"]) : ∀ m, Cl P w K mg base (m + 6) "_law_grown" (spGrown K m) := by
  intro m
  induction m with
  | zero =>
    refine cl_of (k := 5) D sc_l_grown (fun vs H Q E h => ?_) fun f cdv A outer s H vs Q E hr h => ?_
    · obtain ⟨h, c, j, rfl, _⟩ := h
      rfl
    · obtain ⟨h, c, j, _, _, z, _⟩ := h
      exact absurd z (Nat.not_lt_zero _)
  | succ m ih =>
  refine cl_of (k := m + 6) D sc_l_grown (fun vs H Q E h => ?_) fun f cdv A outer s H vs Q E hr h => ?_
  · obtain ⟨h, c, j, rfl, _⟩ := h
    rfl
  · obtain ⟨h, c, j, rfl, hh, jm, j7, k⟩ := h
    refine ⟨_, (pss_cons (ps_if (pt_cmpR op_le (pv 1) pe_int (nomark _))
        (pss_one (ps_ret (pe_ifExp (pt_cmpR op_gt (pe_c c_l_draw hr (by omega) (by rfl) (pa_cons (pv 0) (pa_cons pe_int pa_nil))) pe_int (nomark _)) (pe_c c_l_some_literal hr (by omega) (by rfl) (pa_cons (pv 0) pa_nil)) (pe_c c_l_go_again hr (by omega) (by rfl) (pa_cons (pv 0) pa_nil)))))
        pss_nil)
      (pss_cons (ps_set (i := 2) sc_l_grown.nd rfl (Or.inl rfl) (pe_c ih hr (by omega) (by rfl) (pa_cons (pv 0) (pa_cons (pe_op op_sub (pv 1) pe_int) pa_nil))))
      (pss_cons (ps_set (i := 3) sc_l_grown.nd rfl (Or.inl rfl) (pe_op op_add_str pe_str (pe_callTy call_str_int (by rfl) T.str (by decide +kernel) (pa_cons (pv 1) pa_nil))))
      (pss_cons (ps_set (i := 4) sc_l_grown.nd rfl (Or.inl rfl) (pe_c c_l_draw hr (by omega) (by rfl) (pa_cons (pv 0) (pa_cons pe_int pa_nil))))
      (pss_cons (ps_if (pt_cmpR op_ge (pv 4) pe_int (nomark _))
        (pss_one (ps_ret (pe_c c_l_grown_more hr (by omega) (by rfl) (pa_cons (pv 0) (pa_cons (pv 2) (pa_cons (pv 3) (pa_cons (pv 4) pa_nil)))))))
        pss_nil)
      (pss_cons (ps_if (pt_cmpR op_ge (pv 4) pe_int (nomark _))
        (pss_one (ps_ret (pe_c c_l_grown_rest hr (by omega) (by rfl) (pa_cons (pv 0) (pa_cons (pv 2) (pa_cons (pv 3) (pa_cons (pv 4) pa_nil)))))))
        pss_nil)
      (pss_cons (ps_set (i := 5) sc_l_grown.nd rfl (Or.inl rfl) (pe_c c_l_some_literal hr (by omega) (by rfl) (pa_cons (pv 0) pa_nil)))
      (pss_cons (ps_set (i := 6) sc_l_grown.nd rfl (Or.inl rfl) (pe_c c_l_some_calm hr (by omega) (by rfl) (pa_cons (pv 0) pa_nil)))
      (pss_cons (ps_set (i := 7) sc_l_grown.nd rfl (Or.inl rfl) (pgx_tup (K := K) (pgx_cons pgx_str (pgx_cons (pgx_slot (pv 3)) pgx_nil))))
      (pss_cons (ps_set (i := 8) sc_l_grown.nd rfl (Or.inl rfl) (pgx_tup (K := K) (pgx_cons pgx_str (pgx_cons (pgx_tup (K := K) (pgx_cons pgx_str (pgx_cons pgx_str pgx_nil))) pgx_nil))))
      (pss_cons (ps_if (pt_cmpR op_eq (pv 4) pe_int (nomark _))
        (pss_one (ps_ret (pgx_tup (K := K) (pgx_cons pgx_str (pgx_cons pgx_str (pgx_cons (pgx_tup (K := K) (pgx_cons (pgx_slot (pv 2)) (pgx_cons (pgx_ex 0 (pe_c ih hr (by omega) (by rfl) (pa_cons (pv 0) (pa_cons pe_int pa_nil)))) pgx_nil))) pgx_nil))))))
        pss_nil)
      (pss_cons (ps_if (pt_cmpR op_eq (pv 4) pe_int (nomark _))
        (pss_one (ps_ret (pgx_tup (K := K) (pgx_cons pgx_str (pgx_cons (pgx_tup (K := K) (pgx_cons (pgx_slot (pv 2)) (pgx_cons (pgx_ex 0 (pe_c c_l_go_again hr (by omega) (by rfl) (pa_cons (pv 0) pa_nil))) pgx_nil))) pgx_nil)))))
        pss_nil)
      (pss_cons (ps_if (pt_cmpR op_eq (pv 4) pe_int (nomark _))
        (pss_cons (ps_set (i := 9) sc_l_grown.nd rfl (Or.inl rfl) (pe_ifExp (pt_cmpR op_eq (pe_c c_l_draw hr (by omega) (by rfl) (pa_cons (pv 0) (pa_cons pe_int pa_nil))) pe_int (nomark _)) (pgx_tup (K := K) (pgx_cons pgx_str (pgx_cons (pgx_slot (pv 3)) (pgx_cons (pgx_tup (K := K) (pgx_cons pgx_str (pgx_cons pgx_int pgx_nil))) pgx_nil)))) (pv 8)))
        (pss_one (ps_ret (pgx_tup (K := K) (pgx_cons pgx_str (pgx_cons (pgx_tup (K := K) (pgx_cons (pgx_tup (K := K) (pgx_cons (pgx_slot (pv 3)) (pgx_cons (pgx_slot (pv 5)) pgx_nil))) pgx_nil)) (pgx_cons (pgx_tup (K := K) (pgx_cons pgx_str (pgx_cons (pgx_tup (K := K) (pgx_cons (pgx_tup (K := K) (pgx_cons pgx_str (pgx_cons (pgx_slot (pv 7)) pgx_nil))) (pgx_cons (pgx_slot (pv 9)) (pgx_cons (pgx_slot (pv 2)) (pgx_cons (pgx_tup (K := K) (pgx_cons pgx_str (pgx_cons (pgx_slot (pv 7)) pgx_nil))) pgx_nil))))) pgx_nil))) pgx_nil)))))))
        pss_nil)
      (pss_cons (ps_set (i := 10) sc_l_grown.nd rfl (Or.inl rfl) (pe_lst (pa_cons (pgx_tup (K := K) (pgx_cons pgx_str (pgx_cons (pgx_slot (pv 2)) pgx_nil))) (pa_cons (pgx_tup (K := K) (pgx_cons pgx_str (pgx_cons pgx_str (pgx_cons (pgx_tup (K := K) (pgx_cons (pgx_slot (pv 2)) (pgx_cons (pgx_slot (pv 5)) pgx_nil))) pgx_nil)))) (pa_cons (pgx_tup (K := K) (pgx_cons pgx_str (pgx_cons (pgx_tup (K := K) (pgx_cons (pgx_tup (K := K) (pgx_cons pgx_str (pgx_cons (pgx_ex 0 (pe_c c_l_some_op hr (by omega) (by rfl) (pa_cons (pv 0) pa_nil))) pgx_nil))) (pgx_cons (pgx_slot (pv 2)) pgx_nil))) pgx_nil))) pa_nil)))))
      (pss_cons (ps_set (i := 10) sc_l_grown.nd rfl (Or.inl rfl) (pe_op op_cat (pv 10) (pe_lst (pa_cons (pgx_tup (K := K) (pgx_cons pgx_str (pgx_cons (pgx_slot (pv 5)) (pgx_cons (pgx_slot (pv 2)) (pgx_cons (pgx_slot (pv 8)) pgx_nil))))) (pa_cons (pgx_tup (K := K) (pgx_cons pgx_str (pgx_cons (pgx_tup (K := K) (pgx_cons (pgx_slot (pv 6)) (pgx_cons (pgx_slot (pv 8)) (pgx_cons (pgx_slot (pv 6)) (pgx_cons (pgx_slot (pv 2)) pgx_nil))))) pgx_nil))) (pa_cons (pgx_tup (K := K) (pgx_cons pgx_str (pgx_cons (pgx_tup (K := K) (pgx_cons (pgx_slot (pv 2)) pgx_nil)) pgx_nil))) (pa_cons (pv 2) pa_nil)))))))
      (pss_cons (ps_expr (pe_bm PySem.F.plainAttrs_list PySem.F.slot_list_append PySem.F.type_list_append mt_append (pv 10) (pa_cons (pgx_tup (K := K) (pgx_cons pgx_str (pgx_cons (pgx_tup (K := K) (pgx_cons pgx_str (pgx_cons (pgx_tup (K := K) (pgx_cons (pgx_slot (pv 3)) pgx_nil)) (pgx_cons (pgx_tup (K := K) (pgx_cons pgx_str (pgx_cons (pgx_tup (K := K) (pgx_cons (pgx_tup (K := K) (pgx_cons pgx_str (pgx_cons (pgx_slot (pv 7)) pgx_nil))) (pgx_cons (pgx_slot (pv 2)) pgx_nil))) pgx_nil))) pgx_nil)))) (pgx_cons (pgx_tup (K := K) (pgx_cons (pgx_slot (pv 5)) pgx_nil)) pgx_nil)))) pa_nil)))
      (pss_cons (ps_set (i := 10) sc_l_grown.nd rfl (Or.inl rfl) (pe_op op_cat (pv 10) (pe_lst (pa_cons (pgx_tup (K := K) (pgx_cons pgx_str (pgx_cons (pgx_tup (K := K) (pgx_cons (pgx_tup (K := K) (pgx_cons (pgx_slot (pv 3)) (pgx_cons (pgx_slot (pv 6)) pgx_nil))) pgx_nil)) (pgx_cons (pgx_slot (pv 2)) pgx_nil)))) (pa_cons (pgx_tup (K := K) (pgx_cons pgx_str (pgx_cons (pgx_tup (K := K) (pgx_cons (pgx_tup (K := K) (pgx_cons (pgx_slot (pv 3)) (pgx_cons (pgx_slot (pv 2)) pgx_nil))) pgx_nil)) (pgx_cons (pgx_slot (pv 7)) pgx_nil)))) pa_nil)))))
      (pss_cons (ps_set (i := 11) sc_l_grown.nd rfl (Or.inl rfl) (pgx_tup (K := K) (pgx_cons pgx_str (pgx_cons (pgx_tup (K := K) (pgx_cons (pgx_slot (pv 3)) pgx_nil)) (pgx_cons (pgx_tup (K := K) (pgx_cons pgx_str (pgx_cons pgx_str (pgx_cons (pgx_tup (K := K) (pgx_cons (pgx_slot (pv 7)) (pgx_cons (pgx_tup (K := K) (pgx_cons pgx_str (pgx_cons pgx_str pgx_nil))) pgx_nil))) pgx_nil)))) pgx_nil)))))
      (pss_cons (ps_set (i := 10) sc_l_grown.nd rfl (Or.inl rfl) (pe_op op_cat (pv 10) (pe_lst (pa_cons (pgx_tup (K := K) (pgx_cons pgx_str (pgx_cons (pgx_slot (pv 11)) (pgx_cons (pgx_tup (K := K) (pgx_cons (pgx_slot (pv 2)) pgx_nil)) pgx_nil)))) (pa_cons (pgx_tup (K := K) (pgx_cons pgx_str (pgx_cons (pgx_tup (K := K) (pgx_cons (pgx_tup (K := K) (pgx_cons pgx_str (pgx_cons (pgx_slot (pv 6)) pgx_nil))) (pgx_cons (pgx_tup (K := K) (pgx_cons pgx_str (pgx_cons (pgx_tup (K := K) (pgx_cons pgx_str (pgx_cons (pgx_tup (K := K) pgx_nil) (pgx_cons (pgx_slot (pv 2)) pgx_nil)))) (pgx_cons (pgx_tup (K := K) pgx_nil) pgx_nil)))) pgx_nil))) pgx_nil))) pa_nil)))))
      (pss_one (ps_ret (pe_ix ix_list (pv 10) (pv 4) (fun _ _ => rfl))))))))))))))))))))))), ?_⟩
    have sn : sok "n" := by decide +kernel
    refine ⟨_, rfl, _, _, rfl, rfl, _, rfl, ?_⟩
    by_cases q : (j : Int) ≤ 0
    · rw [decide_eq_true q]
      refine iteT (ex_draw rfl hh (by decide) (by decide) fun n H1 _ _ kh1 hh1 => ⟨_, _, rfl, rfl, _, rfl, ?_⟩)
      by_cases q2 : n > 0
      · rw [decide_eq_true q2]
        exact iteT (ex_gen rfl hh1 fun v t H' kh' hh' dd g => k v t H' (kh1.trans kh') hh' dd (g.mono (by omega) (by omega)))
      · rw [decide_eq_false q2]
        exact iteF (ex_gen rfl hh1 fun v t H' kh' hh' dd g => k v t H' (kh1.trans kh') hh' dd (g.mono (by omega) (by omega)))
    rw [decide_eq_false q]
    obtain ⟨i, rfl⟩ : ∃ i, j = i + 1 := ⟨j - 1, by omega⟩
    refine iteF ⟨_, rfl, _, rfl, _, _, rfl, rfl, h, c, i, by
      show [V.ref h, V.int (((i + 1 : Nat) : Int) - 1)] = _
      rw [show ((i + 1 : Nat) : Int) - 1 = (i : Int) by omega], hh, by omega, by omega, fun v2 s' H1 kh1 hh1 e1 gs => ?_⟩
    obtain ⟨z1, z2, z3⟩ := z_ok (i := ((i + 1 : Nat) : Int)) (by omega) (by omega)
    refine ⟨_, rfl, _, rfl, z1, _, _, rfl, rfl, z3, ?_⟩
    generalize (("z" : Str) ++ (toString ((i + 1 : Nat) : Int) : Str)) = x at *
    have gx := gd_name z2
    generalize hd : 7 + 6 * i = d at *
    generalize hn : 18 + 30 * i = n0 at *
    have kB : ∀ (u : V) (t : Tr) (H' : Hp), Kh h H H' → Hand H' h c → Dp K H' u t.enc → Gd (6 + d) (n0 + 30) t → Q u H' := fun u t H' a b e g => k u t H' a b e (g.mono (by omega) (by omega))
    clear k
    have l7 : 7 ≤ d := by omega
    refine ex_draw rfl hh1 (by decide) (by decide) fun p H2 p0 p1 kh2 hh2 => ?_
    have kh02 := kh1.trans kh2
    have e2 := mvT kh2 e1
    refine ⟨_, rfl, _, _, rfl, rfl, _, rfl, ?_⟩
    by_cases q : p ≥ 28
    · rw [decide_eq_true q]
      exact iteT ⟨_, rfl, _, rfl, _, rfl, _, rfl, h, c, v2, x, p, s', d, n0, rfl, hh2, e2, gs, l7, z2, fun u t H' a b e g => kB u t H' (kh02.trans a) b e g⟩
    rw [decide_eq_false q]
    refine iteF ⟨_, rfl, _, _, rfl, rfl, _, rfl, ?_⟩
    by_cases q : p ≥ 14
    · rw [decide_eq_true q]
      exact iteT ⟨_, rfl, _, rfl, _, rfl, _, rfl, h, c, v2, x, p, s', d, n0, rfl, hh2, e2, gs, l7, z2, fun u t H' a b e g => kB u t H' (kh02.trans a) b e g⟩
    rw [decide_eq_false q]
    refine iteF (ex_gen rfl hh2 fun v5 lt H3 kh3 hh3 l3 gl => ex_gen rfl hh3 fun v6 cm H4 kh4 hh4 c4 gc => ?_)
    refine tg_pure (fun _ => .str x) hh4 (And.intro ⟨_, rfl, .str x, rfl⟩ True.intro) rfl fun v7 H5 kh5 hh5 d5 => ?_
    have r5 : Dp K H5 v7 (Tr.mk (.name x) []).enc := d5
    refine tg_pure (fun _ => .int 0) hh5 True.intro rfl fun v8 H6 kh6 hh6 d6 => ?_
    have n6 : Dp K H6 v8 (Tr.mk (.plain "show") [.mk (.name "n") []]).enc := d6
    have gn : Gd 2 2 (.mk (.plain "show") [.mk (.name "n") []]) := gd_show (gd_name sn)
    generalize (Tr.mk (.plain "show") [.mk (.name "n") []]) = nb at *
    have kh36 := (kh4.trans kh5).trans kh6
    have kh06 := (kh02.trans kh3).trans kh36
    have e6 := mvT (kh3.trans kh36) e2
    have l6 := mvT kh36 l3
    have c6 := mvT (kh5.trans kh6) c4
    have r6 := mvT kh6 r5
    have kD : ∀ (u : V) (t : Tr) (H' : Hp), Kh h H6 H' → Hand H' h c → Dp K H' u t.enc → Gd (6 + d) (n0 + 30) t → Q u H' := fun u t H' a b e g => kB u t H' (kh06.trans a) b e g
    refine ⟨_, rfl, rfl, _, rfl, ?_⟩
    by_cases q : p = 12
    · refine iteIeq q ⟨h, c, fun _ => s'.enc, fun _ => TreeS 7 18, hh6, And.intro ⟨_, rfl, e6, flat_enc _⟩ True.intro, And.intro (fun H7 kh7 hh7 => ⟨_, rfl, h, c, 0, rfl, hh7, by omega, by omega, fun u t H' a b e g => ⟨a, b, t.enc, ⟨t, rfl, g⟩, flat_enc t, e⟩⟩) True.intro, fun v9 H9 τ kh9 hh9 als ft dp => ?_⟩
      obtain ⟨⟨t1, e9, g9⟩, _⟩ := als
      have dp' : Dp K H9 v9 (.tuple [.str "op", .str "+", .tuple [s'.enc, τ 0]]) := dp
      rw [show τ 0 = t1.enc from e9] at dp'
      exact kD v9 (.mk (.op "+") [s', t1]) H9 kh9 hh9 dp' ((gd_op (d := d) (by decide +kernel) (gs.cons (g9.cons Gds.nil))).mono (by omega) (by omega))
    refine iteIne q ⟨_, rfl, rfl, _, rfl, ?_⟩
    by_cases q : p = 13
    · refine iteIeq q ⟨h, c, fun _ => s'.enc, fun _ => TreeS 7 18, hh6, And.intro ⟨_, rfl, e6, flat_enc _⟩ True.intro, And.intro (fun H7 kh7 hh7 => ex_gen rfl hh7 fun v' t H' a b e g => ⟨a, b, t.enc, ⟨t, rfl, g⟩, flat_enc t, e⟩) True.intro, fun v9 H9 τ kh9 hh9 als ft dp => ?_⟩
      obtain ⟨⟨t1, e9, g9⟩, _⟩ := als
      have dp' : Dp K H9 v9 (.tuple [.str "do", .tuple [s'.enc, τ 0]]) := dp
      rw [show τ 0 = t1.enc from e9] at dp'
      exact kD v9 (.mk .doo [s', t1]) H9 kh9 hh9 dp' ((gd_do (d := d) (gs.cons (g9.cons Gds.nil))).mono (by omega) (by omega))
    refine iteIne q ⟨_, rfl, rfl, _, rfl, ?_⟩
    by_cases q : p = 6
    · refine iteIeq q (ex_draw rfl hh6 (by decide) (by decide) fun m2 H7 _ _ kh7 hh7 => ?_)
      have last : ∀ (v9 : V) (ct : Tr) (H8 : Hp), Kh h H6 H8 → Hand H8 h c → Dp K H8 v9 ct.enc → Gd 2 2 ct → tG K (.tup [.str "let", .tup [.tup [.slot 3, .slot 5]], .tup [.str "do", .tup [.tup [.str "show", .slot 7], .slot 9, .slot 2, .tup [.str "show", .slot 7]]]]) [some (.ref h), some (.int ((i + 1 : Nat) : Int)), some v2, some (.str x), some (.int p), some v5, some v6, some v7, some v8, some v9, none, none] H8 Q := fun v9 ct H8 kh8 hh8 d9 gct => by
        refine tg_pure (fun | 3 => .str x | 5 => lt.enc | 7 => (Tr.mk (.name x) []).enc | 9 => ct.enc | _ => s'.enc) hh8 (And.intro ⟨_, rfl, .str x, rfl⟩ (And.intro ⟨_, rfl, mvT kh8 l6, flat_enc _⟩ (And.intro ⟨_, rfl, mvT kh8 r6, flat_enc _⟩ (And.intro ⟨_, rfl, d9, flat_enc _⟩ (And.intro ⟨_, rfl, mvT kh8 e6, flat_enc _⟩ (And.intro ⟨_, rfl, mvT kh8 r6, flat_enc _⟩ True.intro)))))) rfl fun u H9 kh9 hh9 dd => ?_
        exact kD u (.mk (.bind "let" [x]) [lt, .mk .doo [.mk (.plain "show") [.mk (.name x) []], ct, s', .mk (.plain "show") [.mk (.name x) []]]]) H9 (kh8.trans kh9) hh9 dd
          ((gd_bind (d := 2 + d) (by decide) (all_cons z2 all_nil) (gl.cons ((gd_do (d := d) ((gd_show gx).cons (gct.cons (gs.cons ((gd_show gx).cons Gds.nil))))).cons Gds.nil))).mono (by omega) (by omega))
      refine ⟨rfl, _, rfl, ?_⟩
      by_cases q2 : m2 = 0
      · refine iteIeq q2 (tg_pure (fun _ => .str x) hh7 (And.intro ⟨_, rfl, .str x, rfl⟩ True.intro) rfl fun v9 H8 kh8 hh8 d8 => ?_)
        exact last v9 (.mk (.one "set" x) [.mk (.num 3) []]) H8 (kh7.trans kh8) hh8 d8 (gd_one (by decide) z2 (gd_num 3))
      · exact iteIne q2 ⟨_, rfl, last v8 nb H7 kh7 hh7 (mvT kh7 n6) gn⟩
    refine iteIne q ?_
    have kD0 := kD
    clear kB kD e2 r5 d5 d6 kh06 kh36
    -- the first three forms
    refine tg_pure (fun _ => s'.enc) hh6 (And.intro ⟨_, rfl, e6, flat_enc _⟩ True.intro) rfl fun u0 Ha ka hha d0 => ?_
    refine tg_pure (fun | 2 => s'.enc | _ => lt.enc) hha (And.intro ⟨_, rfl, mvT ka e6, flat_enc _⟩ (And.intro ⟨_, rfl, mvT ka l6, flat_enc _⟩ True.intro)) rfl fun u1 Hb kb' hhb d1 => ?_
    have kb := ka.trans kb'
    refine ⟨h, c, fun _ => s'.enc, fun _ => TreeS 3 3, hhb, And.intro ⟨_, rfl, mvT kb e6, flat_enc _⟩ True.intro, And.intro (fun H7 kh7 hh7 => ex_gen rfl hh7 fun v' t H' a b e g => ⟨a, b, t.enc, ⟨t, rfl, g⟩, flat_enc t, e⟩) True.intro, fun u2 Hc τ kc' hhc als ft dp => ?_⟩
    obtain ⟨⟨so, e9, gso⟩, _⟩ := als
    have d2 : Dp K Hc u2 (.tuple [.str "do", .tuple [.tuple [.str "show", τ 0], s'.enc]]) := dp
    rw [show τ 0 = so.enc from e9] at d2
    have kc := kb.trans kc'
    refine ⟨by show 3 ≤ sizeLine; decide, fun F hF => ?_⟩
    have sF := same_new (o := .lst [u0, u1, u2]) hF
    have fm : FmS K H6 (upd Hc F (.lst [u0, u1, u2])) F [u0, u1, u2] [.mk (.plain "show") [s'], .mk (.op "+") [s', lt], .mk .doo [.mk (.plain "show") [so], s']] :=
      ⟨kh_free kc hF, upd_same, .cons (dp_same sF _ _ (mvT (t := .mk (.plain "show") [s']) (kb'.trans kc') d0)) (.cons (dp_same sF _ _ (mvT (t := .mk (.op "+") [s', lt]) kc' d1)) (.cons (dp_same sF _ _ (show Dp K Hc u2 (Tr.mk .doo [.mk (.plain "show") [so], s']).enc from d2)) .nil))⟩
    have kd := kc.trans (hhc.kh sF)
    have hhd := hhc.same sF
    generalize upd Hc F (.lst [u0, u1, u2]) = Hd at *
    -- four more
    refine ⟨_, rfl, ?_⟩
    refine tg_pure (fun | 5 => lt.enc | 2 => s'.enc | _ => nb.enc) hhd (And.intro ⟨_, rfl, mvT kd l6, flat_enc _⟩ (And.intro ⟨_, rfl, mvT kd e6, flat_enc _⟩ (And.intro ⟨_, rfl, mvT kd n6, flat_enc _⟩ True.intro))) rfl fun u3 He ke' hhe d3 => ?_
    have ke := kd.trans ke'
    refine tg_pure (fun | 6 => cm.enc | 8 => nb.enc | _ => s'.enc) hhe (And.intro ⟨_, rfl, mvT ke c6, flat_enc _⟩ (And.intro ⟨_, rfl, mvT ke n6, flat_enc _⟩ (And.intro ⟨_, rfl, mvT ke c6, flat_enc _⟩ (And.intro ⟨_, rfl, mvT ke e6, flat_enc _⟩ True.intro)))) rfl fun u4 Hf kf' hhf d4' => ?_
    have kf := ke.trans kf'
    refine tg_pure (fun _ => s'.enc) hhf (And.intro ⟨_, rfl, mvT kf e6, flat_enc _⟩ True.intro) rfl fun u5 Hg kg' hhg d5' => ?_
    have kg := kf.trans kg'
    refine ⟨_, rfl, by show 4 ≤ sizeLine; decide, fun p2 hp2 => ?_⟩
    refine fm_cat (us' := [.mk (.plain "if") [lt, s', nb], .mk .doo [cm, nb, cm, s'], .mk .doo [s'], s']) (fm.kp hh6 ((ke'.trans kf').trans kg')) kg hhg hp2
      (.cons (mvT (t := .mk (.plain "if") [lt, s', nb]) (kf'.trans kg') d3) (.cons (mvT (t := .mk .doo [cm, nb, cm, s']) kg' d4') (.cons (show Dp K Hg u5 (Tr.mk .doo [s']).enc from d5') (.cons (mvT kg e6) .nil)))) (Nat.le_of_ble_eq_true rfl) (Nat.le_of_ble_eq_true rfl) fun F1 Hh kh hhh fm1 => ?_
    -- one more, put behind
    refine ⟨_, rfl, .inl ⟨rfl, _, .inl (.inl fm1.hF)⟩, ?_⟩
    refine tg_pure (fun | 3 => .str x | 7 => (Tr.mk (.name x) []).enc | 2 => s'.enc | _ => lt.enc) hhh (And.intro ⟨_, rfl, .str x, rfl⟩ (And.intro ⟨_, rfl, mvT kh r6, flat_enc _⟩ (And.intro ⟨_, rfl, mvT kh e6, flat_enc _⟩ (And.intro ⟨_, rfl, mvT kh l6, flat_enc _⟩ True.intro)))) rfl fun u7 Hi ki' hhi d7 => ?_
    have fm2 := fm1.kp hh6 ki'
    have ki := kh.trans ki'
    have lu := DpAll.len fm2.al
    refine ⟨F1, _, u7, rfl, rfl, fm2.hF, by rw [lu, List.length_map]; exact Nat.lt_of_lt_of_le (m := 8) (Nat.le_of_ble_eq_true rfl) (by decide), ?_⟩
    have nF := hh6.there fm2.n0
    have fm3 : FmS K H6 (upd Hi F1 (.lst (([u0, u1, u2] ++ [u3, u4, u5, v2]) ++ [u7]))) F1 (([u0, u1, u2] ++ [u3, u4, u5, v2]) ++ [u7]) (([.mk (.plain "show") [s'], .mk (.op "+") [s', lt], .mk .doo [.mk (.plain "show") [so], s']] ++ [.mk (.plain "if") [lt, s', nb], .mk .doo [cm, nb, cm, s'], .mk .doo [s'], s']) ++ [.mk .call [.mk (.fn [x]) [.mk .doo [.mk (.plain "show") [.mk (.name x) []], s']], lt]]) := by
      refine ⟨fm2.n0, upd_same, ?_⟩
      rw [List.map_append]
      refine DpAll.app (dps_keep (fun _ _ q => sqt_put fm2.hF q) _ _ (flat_trees _) fm2.al) (.cons ?_ .nil)
      exact dp_keep (fun _ _ q => sqt_put fm2.hF q) _ _ (flat_enc _) (show Dp K Hi u7 (Tr.mk .call [.mk (.fn [x]) [.mk .doo [.mk (.plain "show") [.mk (.name x) []], s']], lt]).enc from d7)
    have kj : Kh h H6 (upd Hi F1 (.lst (([u0, u1, u2] ++ [u3, u4, u5, v2]) ++ [u7]))) := ki.mut fm2.n0
    have hhj : Hand (upd Hi F1 (.lst (([u0, u1, u2] ++ [u3, u4, u5, v2]) ++ [u7]))) h c := hhi.puts nF.1 nF.2
    generalize upd Hi F1 (.lst (([u0, u1, u2] ++ [u3, u4, u5, v2]) ++ [u7])) = Hj at *
    -- two more
    refine ⟨_, rfl, ?_⟩
    refine tg_pure (fun | 3 => .str x | 6 => cm.enc | _ => s'.enc) hhj (And.intro ⟨_, rfl, .str x, rfl⟩ (And.intro ⟨_, rfl, mvT kj c6, flat_enc _⟩ (And.intro ⟨_, rfl, mvT kj e6, flat_enc _⟩ True.intro))) rfl fun u8 Hk kk' hhk d8 => ?_
    have kk := kj.trans kk'
    refine tg_pure (fun | 3 => .str x | 2 => s'.enc | _ => (Tr.mk (.name x) []).enc) hhk (And.intro ⟨_, rfl, .str x, rfl⟩ (And.intro ⟨_, rfl, mvT kk e6, flat_enc _⟩ (And.intro ⟨_, rfl, mvT kk r6, flat_enc _⟩ True.intro))) rfl fun u9 Hl kl' hhl d9 => ?_
    have kl := kk.trans kl'
    refine ⟨by show 2 ≤ sizeLine; decide, fun p3 hp3 => ?_⟩
    refine fm_cat (us' := [.mk (.bind "let" [x]) [cm, s'], .mk (.bind "let" [x]) [s', .mk (.name x) []]]) (fm3.kp hh6 (kk'.trans kl')) kl hhl hp3
      (.cons (mvT (t := .mk (.bind "let" [x]) [cm, s']) kl' d8) (.cons (show Dp K Hl u9 (Tr.mk (.bind "let" [x]) [s', .mk (.name x) []]).enc from d9) .nil)) (Nat.le_of_ble_eq_true rfl) (Nat.le_of_ble_eq_true rfl) fun F2 Hm km hhm fm4 => ?_
    refine tg_pure (fun | 3 => .str x | _ => (Tr.mk (.name x) []).enc) hhm (And.intro ⟨_, rfl, .str x, rfl⟩ (And.intro ⟨_, rfl, mvT km r6, flat_enc _⟩ True.intro)) rfl fun v11 Hn kn' hhn d11 => ?_
    have dF : Dp K Hn v11 (Tr.mk (.fn [x]) [.mk (.op "+") [.mk (.name x) [], .mk (.name "n") []]]).enc := d11
    have gF : Gd 4 4 (.mk (.fn [x]) [.mk (.op "+") [.mk (.name x) [], .mk (.name "n") []]]) := gd_fn (all_cons z2 all_nil) (gd_op (d := 1) (by decide +kernel) (gx.cons ((gd_name sn).cons Gds.nil)))
    generalize (Tr.mk (.fn [x]) [.mk (.op "+") [.mk (.name x) [], .mk (.name "n") []]]) = tF at *
    have kn := km.trans kn'
    -- the last two
    refine ⟨_, rfl, ?_⟩
    refine tg_pure (fun | 11 => tF.enc | _ => s'.enc) hhn (And.intro ⟨_, rfl, dF, flat_enc _⟩ (And.intro ⟨_, rfl, mvT kn e6, flat_enc _⟩ True.intro)) rfl fun u10 Ho ko' hho d10 => ?_
    have ko := kn.trans ko'
    refine tg_pure (fun | 6 => cm.enc | _ => s'.enc) hho (And.intro ⟨_, rfl, mvT ko c6, flat_enc _⟩ (And.intro ⟨_, rfl, mvT ko e6, flat_enc _⟩ True.intro)) rfl fun u11 Hp kp' hhp d12 => ?_
    have kp := ko.trans kp'
    refine ⟨by show 2 ≤ sizeLine; decide, fun p4 hp4 => ?_⟩
    refine fm_cat (us' := [.mk .call [tF, s'], .mk .doo [.mk (.plain "mark") [cm], .mk .call [.mk (.fn []) [s']]]]) (fm4.kp hh6 ((kn'.trans ko').trans kp')) kp hhp hp4
      (.cons (mvT (t := .mk .call [tF, s']) kp' d10) (.cons (show Dp K Hp u11 (Tr.mk .doo [.mk (.plain "mark") [cm], .mk .call [.mk (.fn []) [s']]]).enc from d12) .nil)) (Nat.le_of_ble_eq_true rfl) (Nat.le_of_ble_eq_true rfl) fun F3 Hq kq hhq fm5 => ?_
    have lq := DpAll.len fm5.al
    rw [List.length_map] at lq
    obtain ⟨j, rfl⟩ : ∃ j : Nat, p = (j : Int) := ⟨p.toNat, by omega⟩
    have hj : j < 12 := by omega
    have lq' : _ = 12 := lq
    have ev := List.getElem?_eq_getElem (Nat.lt_of_lt_of_eq hj lq'.symm)
    obtain ⟨dj, g1, g2⟩ := DpAll.atV fm5.al ev
    obtain ⟨tj, g3, rfl⟩ := map_at g1
    have gm := gd_show gs
    have all : ∀ t ∈ ((([.mk (.plain "show") [s'], .mk (.op "+") [s', lt], .mk .doo [.mk (.plain "show") [so], s']] ++ [.mk (.plain "if") [lt, s', nb], .mk .doo [cm, nb, cm, s'], .mk .doo [s'], s']) ++ [.mk .call [.mk (.fn [x]) [.mk .doo [.mk (.plain "show") [.mk (.name x) []], s']], lt]]) ++ [.mk (.bind "let" [x]) [cm, s'], .mk (.bind "let" [x]) [s', .mk (.name x) []]]) ++ [.mk .call [tF, s'], .mk .doo [.mk (.plain "mark") [cm], .mk .call [.mk (.fn []) [s']]]], Gd (6 + d) (n0 + 30) t :=
      all_cons ((gd_show gs).mono (by omega) (by omega)) (all_cons ((gd_op (d := d) (by decide +kernel) (gs.cons (gl.cons Gds.nil))).mono (by omega) (by omega)) (all_cons ((gd_do (d := d) ((gd_show gso).cons (gs.cons Gds.nil))).mono (by omega) (by omega))
      (all_cons ((gd_if (d := d) (gl.cons (gs.cons (gn.cons Gds.nil)))).mono (by omega) (by omega)) (all_cons ((gd_do (d := d) (gc.cons (gn.cons (gc.cons (gs.cons Gds.nil))))).mono (by omega) (by omega)) (all_cons ((gd_do (d := d) (gs.cons Gds.nil)).mono (by omega) (by omega)) (all_cons (gs.mono (by omega) (by omega))
      (all_cons ((gd_call (d := 3 + d) ((gd_fn (all_cons z2 all_nil) (gd_do (d := d) ((gd_show gx).cons (gs.cons Gds.nil)))).cons (gl.cons Gds.nil))).mono (by omega) (by omega))
      (all_cons ((gd_bind (d := d) (by decide) (all_cons z2 all_nil) (gc.cons (gs.cons Gds.nil))).mono (by omega) (by omega)) (all_cons ((gd_bind (d := d) (by decide) (all_cons z2 all_nil) (gs.cons (gx.cons Gds.nil))).mono (by omega) (by omega))
      (all_cons ((gd_call (d := d) (gF.cons (gs.cons Gds.nil))).mono (by omega) (by omega)) (all_cons ((gd_do (d := 3 + d) ((gd_mark gc).cons ((gd_call (d := 1 + d) ((gd_fn all_nil gs).cons Gds.nil)).cons Gds.nil))).mono (by omega) (by omega)) all_nil)))))))))))
    refine ⟨_, rfl, _, rfl, F3, _, _, _, rfl, rfl, .inl (.inl fm5.hF), atI_nat ev, ?_⟩
    exact kD0 _ tj Hq kq hhq g2 (all tj (List.mem_of_getElem? g3))
end
end K13

namespace K13
open PySem L2 Cm
def spSpiced (K : PySem.W.Frag) : Sp := fun vs H Q _ => ∃ (h c : Addr) (j : Nat), vs = [.ref h, .int (j : Int)] ∧ Hand H h c ∧ j ≤ 7 ∧
  ∀ (u : V) (t : Tr) (H' : Hp), Kh h H H' → Hand H' h c → Dp K H' u t.enc → Gm 55 600 t → Q u H'
def spLaw (K : PySem.W.Frag) : Sp := fun vs H Q _ => ∃ (a : Addr) (ns : List Int), vs = [.ref a] ∧ SqL K H a (ns.map V.int) ∧ ns.length ≤ 63 ∧ ∀ H', Q (.bl true) H'
structure Calls (P : Program) (w : World) (K : PySem.W.Frag) (mg : Str → Option Value) (base : Heap) : Prop where
  hand : Cl P w K mg base 1 "_law_hand" (spHand K)
  draw : Cl P w K mg base 2 "_law_draw" spDraw
  pick : Cl P w K mg base 3 "_law_pick" (spPick K)
  spiced : Cl P w K mg base 63 "_law_spiced" (spSpiced K)
  places : Cl P w K mg base 66 "_law_places" (spPlaces K 64)
  nested : Cl P w K mg base 4 "_law_nested" (spNest K)
  uses : Cl P w K mg base 67 "uses_of" (spUses K 64)
  luses : Cl P w K mg base 66 "_law_uses" (spUsesL K 64)
def elevW : List Str := ["k", "j", "n", "p", "w", "f", "v0", "z1", "z2", "z5", "q"]
theorem elev_sok : ∀ w ∈ elevW, sok w := by decide +kernel
theorem preU_nil (l : List (List Int × Str)) : preU [] l = l := by
  unfold preU
  have : (fun p : List Int × Str => (([] : List Int) ++ p.1, p.2)) = id := by
    funext p
    rfl
  rw [this, List.map_id]
theorem lay_uses {x : Str} {t : Tr} : Lay 3 (.tuple ((t.uses x).map useD)) := Lay.tup fun d hd => by
  obtain ⟨p, hp, rfl⟩ := List.mem_map.mp hd
  have := (use_ok x t p hp).2
  refine Lay.tup (n := 1) fun d hd => ?_
  simp only [List.mem_cons, List.not_mem_nil, or_false] at hd
  rcases hd with rfl | rfl
  · exact Lay.tup (n := 0) fun d hd => by
      obtain ⟨i, _, rfl⟩ := List.mem_map.mp hd
      exact .int i 0
  · exact .str this 1
section
variable {P : Program} {w : World} {K : PySem.W.Frag} {mg : Str → Option Value} {base : Heap}
abbrev s_l_spiced : Stmt := top 25
abbrev N_l_spiced : List Str := ["_law_hand_here", "_law_deep", "_law_mode", "_law_main", "_law_rows", "_law_tree"]
theorem sc_l_spiced : FnScope N_l_spiced ["_law_hand_here", "_law_deep"] (defScope s_l_spiced) := ⟨rfl, rfl, rfl, by decide +kernel, rfl, by decide +kernel, by decide +kernel⟩
theorem ok_l_spiced (T : Txt mg) (c_l_draw : Cl P w K mg base 2 "_law_draw" spDraw) (c_l_grown : Cl P w K mg base 14 "_law_grown" (spGrown K 8)) (c_l_go_again : Cl P w K mg base 4 "_law_go_again" (spGenT K 7 18))
    (c_l_without_takes : Cl P w K mg base 62 "_law_without_takes" (spMapT K Tr.nt 60)) (c_l_marked_winds : Cl P w K mg base 62 "_law_marked_winds" (spMapT K Tr.mw 60)) (D : At K mg "_law_spiced" s_l_spiced ["_law_hand_here", "_law_deep"]) : Cl P w K mg base 63 "_law_spiced" (spSpiced K) := by
  refine cl_of D sc_l_spiced (fun vs H Q E h => ?_) fun f cdv A outer s H vs Q E hr h => ?_
  · obtain ⟨h, c, j, rfl, _⟩ := h
    rfl
  · obtain ⟨h, c, j, rfl, hh, j7, k⟩ := h
    refine ⟨_, (pss_cons (ps_set (i := 2) sc_l_spiced.nd rfl (Or.inl rfl) (pe_c c_l_draw hr (by decide) (by rfl) (pa_cons (pv 0) (pa_cons pe_int pa_nil))))
      (pss_cons (ps_set (i := 3) sc_l_spiced.nd rfl (Or.inl rfl) (pe_c c_l_grown hr (by decide) (by rfl) (pa_cons (pv 0) (pa_cons (pv 1) pa_nil))))
      (pss_cons (ps_set (i := 4) sc_l_spiced.nd rfl (Or.inl rfl) (pgx_tup (K := K) (pgx_cons (pgx_tup (K := K) (pgx_cons pgx_str (pgx_cons (pgx_tup (K := K) (pgx_cons pgx_str pgx_nil)) pgx_nil))) (pgx_cons (pgx_tup (K := K) (pgx_cons pgx_str (pgx_cons (pgx_tup (K := K) (pgx_cons pgx_str pgx_nil)) pgx_nil))) (pgx_cons (pgx_tup (K := K) (pgx_cons pgx_str (pgx_cons (pgx_tup (K := K) (pgx_cons pgx_str (pgx_cons pgx_int pgx_nil))) pgx_nil))) (pgx_cons (pgx_tup (K := K) (pgx_cons pgx_str (pgx_cons (pgx_tup (K := K) (pgx_cons pgx_str (pgx_cons pgx_int pgx_nil))) pgx_nil))) pgx_nil))))))
      (pss_cons (ps_set (i := 5) sc_l_spiced.nd rfl (Or.inl rfl) (pgx_tup (K := K) (pgx_cons pgx_str (pgx_cons (pgx_slot (pv 4)) (pgx_cons (pgx_tup (K := K) (pgx_cons pgx_str (pgx_cons (pgx_tup (K := K) (pgx_cons (pgx_tup (K := K) (pgx_cons pgx_str (pgx_cons (pgx_slot (pv 3)) pgx_nil))) (pgx_cons (pgx_ex 0 (pe_c c_l_go_again hr (by decide) (by rfl) (pa_cons (pv 0) pa_nil))) pgx_nil))) pgx_nil))) pgx_nil)))))
      (pss_cons (ps_if (pt_cmpR op_eq (pv 2) pe_int (nomark _))
        (pss_one (ps_ret (pe_c c_l_without_takes hr (by decide) (by rfl) (pa_cons (pv 5) pa_nil))))
        pss_nil)
      (pss_one (ps_ret (pe_ifExp (pt_cmpR op_eq (pv 2) pe_int (nomark _)) (pe_c c_l_marked_winds hr (by decide) (by rfl) (pa_cons (pv 5) pa_nil)) (pv 5))))))))), ?_⟩
    have skj : ∀ w ∈ (["k", "j", "n", "p"] : List Str), sok w := by decide +kernel
    refine ex_draw rfl hh (by decide) (by decide) fun mode H1 _ _ kh1 hh1 => ?_
    refine ⟨_, rfl, _, rfl, h, c, j, rfl, hh1, by omega, j7, fun v3 mt H2 kh2 hh2 d2 gm => ?_⟩
    have kh02 := kh1.trans kh2
    refine tg_pure (fun _ => .int 0) hh2 True.intro rfl fun v4 H3 kh3 hh3 d3 => ?_
    have d3' : Dp K H3 v4 (.tuple [.tuple [.str "k", (Tr.mk (.lit "none") []).enc], .tuple [.str "j", (Tr.mk (.lit "none") []).enc], .tuple [.str "n", (Tr.mk (.num 0) []).enc], .tuple [.str "p", (Tr.mk (.num 5) []).enc]]) := d3
    have m3 := mvT kh3 d2
    refine ⟨h, c, fun | 4 => .tuple [.tuple [.str "k", (Tr.mk (.lit "none") []).enc], .tuple [.str "j", (Tr.mk (.lit "none") []).enc], .tuple [.str "n", (Tr.mk (.num 0) []).enc], .tuple [.str "p", (Tr.mk (.num 5) []).enc]] | _ => mt.enc, fun _ => TreeS 7 18, hh3, And.intro ⟨_, rfl, d3', rfl⟩ (And.intro ⟨_, rfl, m3, flat_enc _⟩ True.intro), And.intro (fun H7 kh7 hh7 => ex_gen rfl hh7 fun v' t H' a b e g => ⟨a, b, t.enc, ⟨t, rfl, g⟩, flat_enc t, e⟩) True.intro, fun v5 H4 τ kh4 hh4 als ft dp => ?_⟩
    obtain ⟨⟨go, e9, g9⟩, _⟩ := als
    have d4 : Dp K H4 v5 (.tuple [.str "let", .tuple [.tuple [.str "k", (Tr.mk (.lit "none") []).enc], .tuple [.str "j", (Tr.mk (.lit "none") []).enc], .tuple [.str "n", (Tr.mk (.num 0) []).enc], .tuple [.str "p", (Tr.mk (.num 5) []).enc]], .tuple [.str "do", .tuple [.tuple [.str "show", mt.enc], τ 0]]]) := dp
    rw [show τ 0 = go.enc from e9] at d4
    have d4' : Dp K H4 v5 (Tr.mk (.bind "let" ["k", "j", "n", "p"]) [.mk (.lit "none") [], .mk (.lit "none") [], .mk (.num 0) [], .mk (.num 5) [], .mk .doo [.mk (.plain "show") [mt], go]]).enc := d4
    have gt : Gd 55 253 (.mk (.bind "let" ["k", "j", "n", "p"]) [.mk (.lit "none") [], .mk (.lit "none") [], .mk (.num 0) [], .mk (.num 5) [], .mk .doo [.mk (.plain "show") [mt], go]]) :=
      (gd_bind (d := 2 + (1 + (7 + 6 * j))) (by decide) skj ((gd_lit (by decide)).cons ((gd_lit (by decide)).cons ((gd_num 0).cons ((gd_num 5).cons ((gd_do (d := 1 + (7 + 6 * j)) ((gd_show gm).cons (g9.cons Gds.nil))).cons Gds.nil)))))).mono (by omega) (by omega)
    generalize (Tr.mk (.bind "let" ["k", "j", "n", "p"]) [.mk (.lit "none") [], .mk (.lit "none") [], .mk (.num 0) [], .mk (.num 5) [], .mk .doo [.mk (.plain "show") [mt], go]]) = tt at *
    have kh04 := (kh02.trans kh3).trans kh4
    have dpt : tt.dep ≤ 60 := by
      have h1 := dep_dd 1 tt
      have h2 := gt.dd
      omega
    refine ⟨_, rfl, rfl, _, rfl, ?_⟩
    by_cases q : mode = 1
    · refine iteIeq q ⟨_, rfl, v5, tt, 55, 253, rfl, d4', gt, dpt, fun r H5 s5 hr5 => k r tt.nt H5 (kh04.trans (hh4.kh s5)) (hh4.same s5) hr5 ((gd_nt tt gt).gm.mono (by omega) (by omega))⟩
    refine iteIne q ⟨_, rfl, rfl, _, rfl, ?_⟩
    by_cases q : mode = 2
    · exact iteIeq q ⟨_, rfl, v5, tt, 55, 253, rfl, d4', gt, dpt, fun r H5 s5 hr5 => k r tt.mw H5 (kh04.trans (hh4.kh s5)) (hh4.same s5) hr5 ((gm_mw tt gt).mono (by omega) (by omega))⟩
    · exact iteIne q ⟨_, rfl, k v5 tt H4 kh04 hh4 d4' (gt.gm.mono (by omega) (by omega))⟩
abbrev s_law : Stmt := top 27
abbrev N_law : List Str := ["_law_script", "_law_hand_here", "_law_tree", "_law_turn", "_law_places_here", "_law_path", "_law_part", "_law_name"]
theorem sc_law : FnScope N_law ["_law_script"] (defScope s_law) := ⟨rfl, rfl, rfl, by decide +kernel, rfl, by decide +kernel, by decide +kernel⟩
theorem ok_law {f : Addr} {fd : FuncData} (T : Txt mg) (C : Calls P w K mg base) (F : Fun K "law" "law" s_law f fd) : LawAt P w K mg base 68 f fd ["_law_script"] (spLaw K) := by
  refine lawAt_of F sc_law (fun vs H Q E h => ?_) fun cdv A outer s H vs Q E hgd hr h => ?_
  · obtain ⟨a, ns, rfl, _⟩ := h
    rfl
  · obtain ⟨a, ns, rfl, hS, hlen, k⟩ := h
    refine ⟨_, (pss_cons (ps_set (i := 1) sc_law.nd rfl (Or.inl rfl) (pe_c C.hand hr (by decide) (by rfl) (pa_cons (pv 0) pa_nil)))
      (pss_cons (ps_set (i := 2) sc_law.nd rfl (Or.inl rfl) (pe_c C.spiced hr (by decide) (by rfl) (pa_cons (pv 1) (pa_cons (pe_op op_add pe_int (pe_c C.draw hr (by decide) (by rfl) (pa_cons (pv 1) (pa_cons pe_int pa_nil)))) pa_nil))))
      (pss_cons (ps_for PassesOwn.never rfl (pi_range1 (by rfl) T.range (pa_cons pe_int pa_nil)) (pg_name (i := 3) sc_law.nd rfl (Or.inl rfl))
        (pss_cons (ps_set (i := 4) sc_law.nd rfl (Or.inl rfl) (pe_c C.places hr (by decide) (by rfl) (pa_cons (pv 2) (pa_cons (pe_tup pa_nil) (pa_cons pe_bl pa_nil)))))
        (pss_cons (ps_asg (pe_ix ix_list (pv 4) (pe_c C.draw hr (by decide) (by rfl) (pa_cons (pv 1) (pa_cons (pe_callB call_len_seq (by rfl) T.len (by decide +kernel) (pa_cons (pv 4) pa_nil)) pa_nil))) (fun _ _ => rfl)) (pg_tup (by rfl) (pgs_cons (pg_name (i := 5) sc_law.nd rfl (Or.inl rfl)) (pgs_cons (pg_name (i := 6) sc_law.nd rfl (Or.inl rfl)) pgs_nil))))
        (pss_cons (ps_set (i := 6) sc_law.nd rfl (Or.inl rfl) (pe_c C.nested hr (by decide) (by rfl) (pa_cons (pv 1) (pa_cons (pv 6) (pa_cons (pe_c C.pick hr (by decide) (by rfl) (pa_cons (pv 1) (pa_cons (pe_tup (pa_cons pe_str (pa_cons pe_str (pa_cons pe_str (pa_cons pe_str pa_nil))))) pa_nil))) pa_nil)))))
        (pss_one (ps_for PassesOwn.never rfl (pi_tup (pe_tup (pa_cons pe_str (pa_cons pe_str (pa_cons pe_str (pa_cons pe_str (pa_cons pe_str (pa_cons pe_str (pa_cons pe_str (pa_cons pe_str (pa_cons pe_str (pa_cons pe_str (pa_cons pe_str pa_nil))))))))))))) (pg_name (i := 7) sc_law.nd rfl (Or.inl rfl))
          (pss_one (ps_if (pt_cmpR (op_neD hr.units) (pe_c C.uses hr (by decide) (by rfl) (pa_cons (pv 6) (pa_cons (pv 7) pa_nil))) (pe_tupleOf (by rfl) T.tuple (pe_c C.luses hr (by decide) (by rfl) (pa_cons (pv 6) (pa_cons (pv 7) (pa_cons (pe_tup pa_nil) (pa_cons (pe_tup pa_nil) pa_nil)))))) (nomark _))
            (pss_one (ps_ret pe_bl))
            pss_nil))))))))
      (pss_one (ps_ret pe_bl))))), ?_⟩
    refine ⟨_, rfl, a, ns, rfl, hS, hlen, fun h c H1 s1 hn1 hn2 hh1 => ?_⟩
    refine ⟨_, rfl, _, rfl, h, c, 4, rfl, hh1, by decide, by decide, fun dr H2 d0 d1 kh2 hh2 => ?_⟩
    refine ⟨_, _, rfl, rfl, h, c, (4 + dr).toNat, by
      show [V.ref h, V.int (4 + dr)] = _
      rw [Int.toNat_of_nonneg (by omega)], hh2, by omega, fun v2 t H3 kh3 hh3 dt gt => ?_⟩
    refine ⟨_, rfl, by decide, by decide, ?_⟩
    refine for_it (walk_upto (n := (2 : Int).toNat)) (fun i σ H' => ∃ v3 v4 v5 v6 v7 : Option V, σ = [some (.ref a), some (.ref h), some v2, v3, v4, v5, v6, v7] ∧ Hand H' h c ∧ Dp K H' v2 t.enc) ⟨_, _, _, _, _, rfl, hh3, dt⟩ (fun _ _ _ _ _ => trivial) ?_ ?_
    · rintro i x σ H4' H4 hi ⟨v3, v4, v5, v6, v7, rfl, hh4, dt4⟩ ⟨rfl, rfl⟩
      have dpt : t.dep ≤ 64 := by
        have h1 := dep_dd 0 t
        have h2 := gt.dd
        omega
      have szt : t.size ≤ 10000 := by
        have := gt.sz
        omega
      refine ⟨_, rfl, by show 0 ≤ sizeLine; decide, fun t0 ht0 => ?_⟩
      have s5 := same_new (o := .tup []) ht0
      refine ⟨v2, t0, true, t, [], rfl, dp_same s5 _ _ dt4, gt.ok, dpt, szt, .inl (.inl upd_same), by decide, fun l us L H6 s6 nl hl hus hsub hLl hLn => ?_⟩
      have s46 := s5.trans s6
      have hh6 := hh4.same s46
      have nl4 : H4 l = none := free_of s5 nl
      have nlh := (hh4.there nl4).1
      have hul := DpAll.len hus
      rw [List.length_map] at hul
      have hL0 : 0 < L.length := by
        cases L with
        | nil => exact absurd rfl (hLn rfl)
        | cons _ _ => exact Nat.succ_pos _
      refine ⟨_, rfl, _, rfl, _, rfl, l, us, rfl, .inl (.inl (.inl hl)), h, c, (us.length : Nat), rfl, hh6, by omega, by
        refine Int.lt_of_le_of_lt (b := 10000) (by omega) (by decide), fun n H7 n0 n1 kh7 hh7 => ?_⟩
      have hl7 := kh7.st l _ nlh hl
      have hus7 := dps_keep (fun _ _ q => kh7.tup q) _ _ (flat_places L) hus
      obtain ⟨j, rfl⟩ : ∃ j : Nat, n = (j : Int) := ⟨n.toNat, by omega⟩
      have hj : j < us.length := by omega
      have ev := List.getElem?_eq_getElem hj
      obtain ⟨dj, g1, g2⟩ := DpAll.atV hus7 ev
      obtain ⟨pj, g3, rfl⟩ := map_at g1
      obtain ⟨T1, i1, eT1, hT1, hi1⟩ := dp_tup g2
      rw [eT1] at ev
      obtain ⟨x5, x6, rfl, h5, h6⟩ : ∃ x5 x6, i1 = [x5, x6] ∧ Dp K H7 x5 (pathI pj.1) ∧ Dp K H7 x6 pj.2.enc := by
        cases hi1 with
        | cons z1 z2 =>
          obtain ⟨v, rfl, z3⟩ := dpAll_one z2
          exact ⟨_, v, rfl, z1, z3⟩
      refine ⟨l, us, _, _, rfl, rfl, .inl (.inl hl7), atI_nat ev, T1, _, rfl, hT1, rfl, _, _, rfl, _, _, rfl, rfl, ?_⟩
      have sub := hsub pj (List.mem_of_getElem? g3)
      have gp : Gm 55 600 pj.2 := ⟨sub.ok, Nat.le_trans sub.dd gt.dd, Nat.le_trans sub.sz gt.sz⟩
      -- nested
      refine ⟨_, rfl, _, rfl, _, rfl, by show 4 ≤ sizeLine; decide, fun p8 hp8 => ?_⟩
      have s8 := same_new (o := .tup [.str "k", .str "n", .str "w", .str "v0"]) hp8
      refine ⟨h, c, p8, [.str "k", .str "n", .str "w", .str "v0"], rfl, hh7.same s8, .inr (.inl (.inl upd_same)), (fun z => by cases z), by show 4 ≤ 1000; decide, fun vx H9 mx kh9 hh9 => ?_⟩
      obtain ⟨nm, hnm, rfl⟩ := mem_str (ws := ["k", "n", "w", "v0"]) mx
      have snm : ∀ w ∈ (["k", "n", "w", "v0"] : List Str), sok w := by decide +kernel
      have kh79 := (hh7.kh s8).trans kh9
      refine ⟨h, c, x6, nm, pj.2, 55, 600, rfl, hh9, mvT kh79 h6, gp, by decide, snm nm hnm, fun vt nt H10 kh10 hh10 dnt gnt => ?_⟩
      have dpn : nt.dep ≤ 64 := by
        have h1 := dep_dd 0 nt
        have h2 := gnt.dd
        omega
      have szn : nt.size ≤ 10000 := by
        have := gnt.sz
        omega
      have ddn : nt.dd 0 ≤ 64 := by
        have := gnt.dd
        omega
      have dt10 := mvT ((((hh4.kh s46).trans kh7).trans kh79).trans kh10) dt4
      -- the names
      refine ⟨by show 11 ≤ sizeLine; decide, fun p11 hp11 => ?_⟩
      have s11 := same_new (o := .tup (elevW.map V.str)) hp11
      have ht11 : SqT K (upd H10 p11 (.tup (elevW.map V.str))) p11 (elevW.map V.str) := .inl (.inl upd_same)
      refine ⟨p11, rfl, ⟨_, ht11⟩, ?_⟩
      have hh11 := hh10.same s11
      have dnt11 := dp_same s11 _ _ dnt
      have dt11 := dp_same s11 _ _ dt10
      obtain ⟨H11, eH⟩ : ∃ H11, H11 = upd H10 p11 (.tup (elevW.map V.str)) := ⟨_, rfl⟩
      rw [← eH] at ht11 hh11 dnt11 dt11
      refine for_it (walk_tup (xs := elevW.map V.str)) (fun m σ H' => ∃ v7 : Option V, σ = [some (.ref a), some (.ref h), some v2, some (.int (i : Nat)), some (.ref l), some x5, some vt, v7] ∧ Same H11 H') ⟨_, rfl, by rw [eH]; exact Same.refl _⟩ (fun m σ H' _ z => ?_) ?_ ?_
      · obtain ⟨_, _, z⟩ := z
        exact sqt_same z ht11
      · rintro m y σ H12' H12 hm ⟨v7, rfl, s12⟩ ⟨rfl, ey⟩
        obtain ⟨z, ez, rfl⟩ := map_at ey
        have sz := elev_sok z (List.mem_of_getElem? ez)
        refine ⟨_, rfl, _, rfl, vt, z, nt, rfl, dp_same s12 _ _ dnt11, gnt.ok, dpn, ddn, szn, sz, fun r1 us1 H13 s13 hr1 hus1 => ?_⟩
        refine ⟨_, rfl, _, rfl, by show 0 ≤ sizeLine; decide, fun pa hpa => ⟨by show 0 ≤ sizeLine; decide, fun pb hpb => ?_⟩⟩
        have sa := same_new (o := .tup []) hpa
        have sb := same_new (o := .tup []) hpb
        have sab := sa.trans sb
        refine ⟨vt, z, pa, pb, nt, [], [], rfl, dp_same ((s12.trans s13).trans sab) _ _ dnt11, gnt.ok, dpn, szn, .inl (.inl (sb _ _ upd_same)), by decide, .inl (.inl upd_same), by decide, fun l2 us2 H14 s14 _ hl2 hus2 => ?_⟩
        rw [if_neg List.not_mem_nil, preU_nil] at hus2
        refine .inl ⟨l2, us2, rfl, .inl (.inl hl2), fun r2 hr2 => ?_⟩
        have s15 := same_new (o := .tup us2) hr2
        refine ⟨.tuple ((nt.uses z).map useD), .tuple ((nt.uses z).map useD), .tup (sqt_same ((sab.trans s14).trans s15) hr1) (dps_same ((sab.trans s14).trans s15) _ _ hus1), .tup (.inl (.inl upd_same)) (dps_same s15 _ _ hus2), lay_uses.sh (by decide), lay_uses.sh (by decide), _, rfl, ?_⟩
        rw [ne_same' (lay_uses.sh (by decide))]
        exact iteF ⟨_, rfl, (((s12.trans s13).trans sab).trans s14).trans s15⟩
      · rintro σ H12 ⟨v7, rfl, s12⟩
        exact ⟨_, _, _, _, _, rfl, hh11.same s12, dp_same s12 _ _ dt11⟩
    · rintro σ H4 ⟨v3, v4, v5, v6, v7, rfl, hh4, dt4⟩
      exact k H4
end
end K13

namespace K13
open PySem L2 Cm
theorem at_mk {K : PySem.W.Frag} {h : Heap} {mg : Str → Option Value} {x : Str} {st : Stmt} {ps : List Str} {f : Addr} {oc : Value} {od an : Option Addr} {osl : Array (Option Value)} {kV doc pm cdv ct : Value} (X : K.In h) (G : h.Ns mainGlobals mg)
    (a : PySem.W.nsIn K mainGlobals x = some (some (.ref f))) (l : K.lookup f = some ⟨oc, od, .func (PySem.W.fnOf x x (defArgs st) (defBody st) (defScope st) .none kV doc pm an cdv ct), osl⟩) (c : PySem.W.codeIn K cdv x = true) (k : PySem.W.keepIn K (.ref f) = true)
    (b : ∀ (kV doc pm : Value) (an : Option Addr) (cdv ct : Value) (us : List Value), us.length = ps.length → bindArgs (PySem.W.fnOf x x (defArgs st) (defBody st) (defScope st) .none kV doc pm an cdv ct) ⟨us, []⟩ = pure (ps.zip us)) : At K mg x st ps :=
  ⟨_, _, fun_mk l c k, PySem.W.mg_of X G a, (fun_mk l c k).binds b⟩
theorem all_mk {l : PySem.W.OpenLaw} {w : World} {K : PySem.W.Frag} {h : Heap} {mg : Str → Option Value} {fa f0 f1 f2 f3 f4 f5 f6 f7 f8 f9 f10 f11 f12 f13 f14 f15 f16 f17 f18 f19 f20 f21 f22 f23 : Addr} (X : K.In h) (G : h.Ns mainGlobals mg) (hfa : mg "law" = some (.ref fa))
    {od0 an0 : Option Addr} {sl0 : Array (Option Value)} {oc0 kV0 dc0 pm0 cd0 ct0 : Value} (a0 : PySem.W.nsIn K mainGlobals "_law_mix" = some (some (.ref f0))) (l0 : K.lookup f0 = some ⟨oc0, od0, .func (PySem.W.fnOf "_law_mix" "_law_mix" (defArgs s_l_mix) (defBody s_l_mix) (defScope s_l_mix) .none kV0 dc0 pm0 an0 cd0 ct0), sl0⟩) (c0 : PySem.W.codeIn K cd0 "_law_mix" = true) (k0 : PySem.W.keepIn K (.ref f0) = true)
    {od1 an1 : Option Addr} {sl1 : Array (Option Value)} {oc1 kV1 dc1 pm1 cd1 ct1 : Value} (a1 : PySem.W.nsIn K mainGlobals "_law_hand" = some (some (.ref f1))) (l1 : K.lookup f1 = some ⟨oc1, od1, .func (PySem.W.fnOf "_law_hand" "_law_hand" (defArgs s_l_hand) (defBody s_l_hand) (defScope s_l_hand) .none kV1 dc1 pm1 an1 cd1 ct1), sl1⟩) (c1 : PySem.W.codeIn K cd1 "_law_hand" = true) (k1 : PySem.W.keepIn K (.ref f1) = true)
    {od2 an2 : Option Addr} {sl2 : Array (Option Value)} {oc2 kV2 dc2 pm2 cd2 ct2 : Value} (a2 : PySem.W.nsIn K mainGlobals "_law_draw" = some (some (.ref f2))) (l2 : K.lookup f2 = some ⟨oc2, od2, .func (PySem.W.fnOf "_law_draw" "_law_draw" (defArgs s_l_draw) (defBody s_l_draw) (defScope s_l_draw) .none kV2 dc2 pm2 an2 cd2 ct2), sl2⟩) (c2 : PySem.W.codeIn K cd2 "_law_draw" = true) (k2 : PySem.W.keepIn K (.ref f2) = true)
    {od3 an3 : Option Addr} {sl3 : Array (Option Value)} {oc3 kV3 dc3 pm3 cd3 ct3 : Value} (a3 : PySem.W.nsIn K mainGlobals "_law_pick" = some (some (.ref f3))) (l3 : K.lookup f3 = some ⟨oc3, od3, .func (PySem.W.fnOf "_law_pick" "_law_pick" (defArgs s_l_pick) (defBody s_l_pick) (defScope s_l_pick) .none kV3 dc3 pm3 an3 cd3 ct3), sl3⟩) (c3 : PySem.W.codeIn K cd3 "_law_pick" = true) (k3 : PySem.W.keepIn K (.ref f3) = true)
    {od4 an4 : Option Addr} {sl4 : Array (Option Value)} {oc4 kV4 dc4 pm4 cd4 ct4 : Value} (a4 : PySem.W.nsIn K mainGlobals "parts_of" = some (some (.ref f4))) (l4 : K.lookup f4 = some ⟨oc4, od4, .func (PySem.W.fnOf "parts_of" "parts_of" (defArgs s_p_parts_of) (defBody s_p_parts_of) (defScope s_p_parts_of) .none kV4 dc4 pm4 an4 cd4 ct4), sl4⟩) (c4 : PySem.W.codeIn K cd4 "parts_of" = true) (k4 : PySem.W.keepIn K (.ref f4) = true)
    {od5 an5 : Option Addr} {sl5 : Array (Option Value)} {oc5 kV5 dc5 pm5 cd5 ct5 : Value} (a5 : PySem.W.nsIn K mainGlobals "names_bound" = some (some (.ref f5))) (l5 : K.lookup f5 = some ⟨oc5, od5, .func (PySem.W.fnOf "names_bound" "names_bound" (defArgs s_p_names_bound) (defBody s_p_names_bound) (defScope s_p_names_bound) .none kV5 dc5 pm5 an5 cd5 ct5), sl5⟩) (c5 : PySem.W.codeIn K cd5 "names_bound" = true) (k5 : PySem.W.keepIn K (.ref f5) = true)
    {od6 an6 : Option Addr} {sl6 : Array (Option Value)} {oc6 kV6 dc6 pm6 cd6 ct6 : Value} (a6 : PySem.W.nsIn K mainGlobals "uses_of" = some (some (.ref f6))) (l6 : K.lookup f6 = some ⟨oc6, od6, .func (PySem.W.fnOf "uses_of" "uses_of" (defArgs s_p_uses_of) (defBody s_p_uses_of) (defScope s_p_uses_of) .none kV6 dc6 pm6 an6 cd6 ct6), sl6⟩) (c6 : PySem.W.codeIn K cd6 "uses_of" = true) (k6 : PySem.W.keepIn K (.ref f6) = true)
    {od7 an7 : Option Addr} {sl7 : Array (Option Value)} {oc7 kV7 dc7 pm7 cd7 ct7 : Value} (a7 : PySem.W.nsIn K mainGlobals "_law_parts" = some (some (.ref f7))) (l7 : K.lookup f7 = some ⟨oc7, od7, .func (PySem.W.fnOf "_law_parts" "_law_parts" (defArgs s_l_parts) (defBody s_l_parts) (defScope s_l_parts) .none kV7 dc7 pm7 an7 cd7 ct7), sl7⟩) (c7 : PySem.W.codeIn K cd7 "_law_parts" = true) (k7 : PySem.W.keepIn K (.ref f7) = true)
    {od8 an8 : Option Addr} {sl8 : Array (Option Value)} {oc8 kV8 dc8 pm8 cd8 ct8 : Value} (a8 : PySem.W.nsIn K mainGlobals "_law_remade" = some (some (.ref f8))) (l8 : K.lookup f8 = some ⟨oc8, od8, .func (PySem.W.fnOf "_law_remade" "_law_remade" (defArgs s_l_remade) (defBody s_l_remade) (defScope s_l_remade) .none kV8 dc8 pm8 an8 cd8 ct8), sl8⟩) (c8 : PySem.W.codeIn K cd8 "_law_remade" = true) (k8 : PySem.W.keepIn K (.ref f8) = true)
    {od9 an9 : Option Addr} {sl9 : Array (Option Value)} {oc9 kV9 dc9 pm9 cd9 ct9 : Value} (a9 : PySem.W.nsIn K mainGlobals "_law_places" = some (some (.ref f9))) (l9 : K.lookup f9 = some ⟨oc9, od9, .func (PySem.W.fnOf "_law_places" "_law_places" (defArgs s_l_places) (defBody s_l_places) (defScope s_l_places) .none kV9 dc9 pm9 an9 cd9 ct9), sl9⟩) (c9 : PySem.W.codeIn K cd9 "_law_places" = true) (k9 : PySem.W.keepIn K (.ref f9) = true)
    {od10 an10 : Option Addr} {sl10 : Array (Option Value)} {oc10 kV10 dc10 pm10 cd10 ct10 : Value} (a10 : PySem.W.nsIn K mainGlobals "_law_uses" = some (some (.ref f10))) (l10 : K.lookup f10 = some ⟨oc10, od10, .func (PySem.W.fnOf "_law_uses" "_law_uses" (defArgs s_l_uses) (defBody s_l_uses) (defScope s_l_uses) .none kV10 dc10 pm10 an10 cd10 ct10), sl10⟩) (c10 : PySem.W.codeIn K cd10 "_law_uses" = true) (k10 : PySem.W.keepIn K (.ref f10) = true)
    {od11 an11 : Option Addr} {sl11 : Array (Option Value)} {oc11 kV11 dc11 pm11 cd11 ct11 : Value} (a11 : PySem.W.nsIn K mainGlobals "_law_without_takes" = some (some (.ref f11))) (l11 : K.lookup f11 = some ⟨oc11, od11, .func (PySem.W.fnOf "_law_without_takes" "_law_without_takes" (defArgs s_l_without_takes) (defBody s_l_without_takes) (defScope s_l_without_takes) .none kV11 dc11 pm11 an11 cd11 ct11), sl11⟩) (c11 : PySem.W.codeIn K cd11 "_law_without_takes" = true) (k11 : PySem.W.keepIn K (.ref f11) = true)
    {od12 an12 : Option Addr} {sl12 : Array (Option Value)} {oc12 kV12 dc12 pm12 cd12 ct12 : Value} (a12 : PySem.W.nsIn K mainGlobals "_law_marked_winds" = some (some (.ref f12))) (l12 : K.lookup f12 = some ⟨oc12, od12, .func (PySem.W.fnOf "_law_marked_winds" "_law_marked_winds" (defArgs s_l_marked_winds) (defBody s_l_marked_winds) (defScope s_l_marked_winds) .none kV12 dc12 pm12 an12 cd12 ct12), sl12⟩) (c12 : PySem.W.codeIn K cd12 "_law_marked_winds" = true) (k12 : PySem.W.keepIn K (.ref f12) = true)
    {od13 an13 : Option Addr} {sl13 : Array (Option Value)} {oc13 kV13 dc13 pm13 cd13 ct13 : Value} (a13 : PySem.W.nsIn K mainGlobals "_law_some_literal" = some (some (.ref f13))) (l13 : K.lookup f13 = some ⟨oc13, od13, .func (PySem.W.fnOf "_law_some_literal" "_law_some_literal" (defArgs s_l_some_literal) (defBody s_l_some_literal) (defScope s_l_some_literal) .none kV13 dc13 pm13 an13 cd13 ct13), sl13⟩) (c13 : PySem.W.codeIn K cd13 "_law_some_literal" = true) (k13 : PySem.W.keepIn K (.ref f13) = true)
    {od14 an14 : Option Addr} {sl14 : Array (Option Value)} {oc14 kV14 dc14 pm14 cd14 ct14 : Value} (a14 : PySem.W.nsIn K mainGlobals "_law_some_calm" = some (some (.ref f14))) (l14 : K.lookup f14 = some ⟨oc14, od14, .func (PySem.W.fnOf "_law_some_calm" "_law_some_calm" (defArgs s_l_some_calm) (defBody s_l_some_calm) (defScope s_l_some_calm) .none kV14 dc14 pm14 an14 cd14 ct14), sl14⟩) (c14 : PySem.W.codeIn K cd14 "_law_some_calm" = true) (k14 : PySem.W.keepIn K (.ref f14) = true)
    {od15 an15 : Option Addr} {sl15 : Array (Option Value)} {oc15 kV15 dc15 pm15 cd15 ct15 : Value} (a15 : PySem.W.nsIn K mainGlobals "_law_some_op" = some (some (.ref f15))) (l15 : K.lookup f15 = some ⟨oc15, od15, .func (PySem.W.fnOf "_law_some_op" "_law_some_op" (defArgs s_l_some_op) (defBody s_l_some_op) (defScope s_l_some_op) .none kV15 dc15 pm15 an15 cd15 ct15), sl15⟩) (c15 : PySem.W.codeIn K cd15 "_law_some_op" = true) (k15 : PySem.W.keepIn K (.ref f15) = true)
    {od16 an16 : Option Addr} {sl16 : Array (Option Value)} {oc16 kV16 dc16 pm16 cd16 ct16 : Value} (a16 : PySem.W.nsIn K mainGlobals "_law_count_on" = some (some (.ref f16))) (l16 : K.lookup f16 = some ⟨oc16, od16, .func (PySem.W.fnOf "_law_count_on" "_law_count_on" (defArgs s_l_count_on) (defBody s_l_count_on) (defScope s_l_count_on) .none kV16 dc16 pm16 an16 cd16 ct16), sl16⟩) (c16 : PySem.W.codeIn K cd16 "_law_count_on" = true) (k16 : PySem.W.keepIn K (.ref f16) = true)
    {od17 an17 : Option Addr} {sl17 : Array (Option Value)} {oc17 kV17 dc17 pm17 cd17 ct17 : Value} (a17 : PySem.W.nsIn K mainGlobals "_law_go_again" = some (some (.ref f17))) (l17 : K.lookup f17 = some ⟨oc17, od17, .func (PySem.W.fnOf "_law_go_again" "_law_go_again" (defArgs s_l_go_again) (defBody s_l_go_again) (defScope s_l_go_again) .none kV17 dc17 pm17 an17 cd17 ct17), sl17⟩) (c17 : PySem.W.codeIn K cd17 "_law_go_again" = true) (k17 : PySem.W.keepIn K (.ref f17) = true)
    {od18 an18 : Option Addr} {sl18 : Array (Option Value)} {oc18 kV18 dc18 pm18 cd18 ct18 : Value} (a18 : PySem.W.nsIn K mainGlobals "_law_grown" = some (some (.ref f18))) (l18 : K.lookup f18 = some ⟨oc18, od18, .func (PySem.W.fnOf "_law_grown" "_law_grown" (defArgs s_l_grown) (defBody s_l_grown) (defScope s_l_grown) .none kV18 dc18 pm18 an18 cd18 ct18), sl18⟩) (c18 : PySem.W.codeIn K cd18 "_law_grown" = true) (k18 : PySem.W.keepIn K (.ref f18) = true)
    {od19 an19 : Option Addr} {sl19 : Array (Option Value)} {oc19 kV19 dc19 pm19 cd19 ct19 : Value} (a19 : PySem.W.nsIn K mainGlobals "_law_grown_more" = some (some (.ref f19))) (l19 : K.lookup f19 = some ⟨oc19, od19, .func (PySem.W.fnOf "_law_grown_more" "_law_grown_more" (defArgs s_l_grown_more) (defBody s_l_grown_more) (defScope s_l_grown_more) .none kV19 dc19 pm19 an19 cd19 ct19), sl19⟩) (c19 : PySem.W.codeIn K cd19 "_law_grown_more" = true) (k19 : PySem.W.keepIn K (.ref f19) = true)
    {od20 an20 : Option Addr} {sl20 : Array (Option Value)} {oc20 kV20 dc20 pm20 cd20 ct20 : Value} (a20 : PySem.W.nsIn K mainGlobals "_law_grown_rest" = some (some (.ref f20))) (l20 : K.lookup f20 = some ⟨oc20, od20, .func (PySem.W.fnOf "_law_grown_rest" "_law_grown_rest" (defArgs s_l_grown_rest) (defBody s_l_grown_rest) (defScope s_l_grown_rest) .none kV20 dc20 pm20 an20 cd20 ct20), sl20⟩) (c20 : PySem.W.codeIn K cd20 "_law_grown_rest" = true) (k20 : PySem.W.keepIn K (.ref f20) = true)
    {od21 an21 : Option Addr} {sl21 : Array (Option Value)} {oc21 kV21 dc21 pm21 cd21 ct21 : Value} (a21 : PySem.W.nsIn K mainGlobals "_law_spiced" = some (some (.ref f21))) (l21 : K.lookup f21 = some ⟨oc21, od21, .func (PySem.W.fnOf "_law_spiced" "_law_spiced" (defArgs s_l_spiced) (defBody s_l_spiced) (defScope s_l_spiced) .none kV21 dc21 pm21 an21 cd21 ct21), sl21⟩) (c21 : PySem.W.codeIn K cd21 "_law_spiced" = true) (k21 : PySem.W.keepIn K (.ref f21) = true)
    {od22 an22 : Option Addr} {sl22 : Array (Option Value)} {oc22 kV22 dc22 pm22 cd22 ct22 : Value} (a22 : PySem.W.nsIn K mainGlobals "_law_nested" = some (some (.ref f22))) (l22 : K.lookup f22 = some ⟨oc22, od22, .func (PySem.W.fnOf "_law_nested" "_law_nested" (defArgs s_l_nested) (defBody s_l_nested) (defScope s_l_nested) .none kV22 dc22 pm22 an22 cd22 ct22), sl22⟩) (c22 : PySem.W.codeIn K cd22 "_law_nested" = true) (k22 : PySem.W.keepIn K (.ref f22) = true)
    {od23 an23 : Option Addr} {sl23 : Array (Option Value)} {oc23 kV23 dc23 pm23 cd23 ct23 : Value} (a23 : PySem.W.nsIn K mainGlobals "law" = some (some (.ref f23))) (l23 : K.lookup f23 = some ⟨oc23, od23, .func (PySem.W.fnOf "law" "law" (defArgs s_law) (defBody s_law) (defScope s_law) .none kV23 dc23 pm23 an23 cd23 ct23), sl23⟩) (c23 : PySem.W.codeIn K cd23 "law" = true) (k23 : PySem.W.keepIn K (.ref f23) = true)
    (z_abs : PySem.W.nsIn K mainGlobals "abs" = some none)
    (z_enumerate : PySem.W.nsIn K mainGlobals "enumerate" = some none)
    (z_int : PySem.W.nsIn K mainGlobals "int" = some none)
    (z_len : PySem.W.nsIn K mainGlobals "len" = some none)
    (z_range : PySem.W.nsIn K mainGlobals "range" = some none)
    (z_str : PySem.W.nsIn K mainGlobals "str" = some none)
    (z_tuple : PySem.W.nsIn K mainGlobals "tuple" = some none)
    : ∃ fd : FuncData, (∀ (s : Shared) (v : Value), BindsTo s fd ⟨[v], []⟩ [("_law_script", v)]) ∧ ∀ base : Heap, K.In base → base.Ns mainGlobals mg → LawAt l.prog w K mg base 68 fa fd ["_law_script"] (spLaw K) := by
  have e := hfa.symm.trans (PySem.W.mg_of X G a23)
  cases e
  have T : Txt mg := ⟨PySem.W.mg_none_of X G z_abs, PySem.W.mg_none_of X G z_enumerate, PySem.W.mg_none_of X G z_int, PySem.W.mg_none_of X G z_len, PySem.W.mg_none_of X G z_range, PySem.W.mg_none_of X G z_str, PySem.W.mg_none_of X G z_tuple⟩
  have D_mix := at_mk (st := s_l_mix) (ps := ["_law_number", "_law_turn"]) X G a0 l0 c0 k0 fun _ _ _ _ _ _ us hl => match us, hl with | [_, _], _ => rfl
  have D_hand := at_mk (st := s_l_hand) (ps := ["_law_script"]) X G a1 l1 c1 k1 fun _ _ _ _ _ _ us hl => match us, hl with | [_], _ => rfl
  have D_draw := at_mk (st := s_l_draw) (ps := ["_law_hand_here", "_law_many"]) X G a2 l2 c2 k2 fun _ _ _ _ _ _ us hl => match us, hl with | [_, _], _ => rfl
  have D_pick := at_mk (st := s_l_pick) (ps := ["_law_hand_here", "_law_things"]) X G a3 l3 c3 k3 fun _ _ _ _ _ _ us hl => match us, hl with | [_, _], _ => rfl
  have D_parts := at_mk (st := s_p_parts_of) (ps := ["tree"]) X G a4 l4 c4 k4 fun _ _ _ _ _ _ us hl => match us, hl with | [_], _ => rfl
  have D_bound := at_mk (st := s_p_names_bound) (ps := ["tree"]) X G a5 l5 c5 k5 fun _ _ _ _ _ _ us hl => match us, hl with | [_], _ => rfl
  have D_uses := at_mk (st := s_p_uses_of) (ps := ["tree", "name"]) X G a6 l6 c6 k6 fun _ _ _ _ _ _ us hl => match us, hl with | [_, _], _ => rfl
  have D_lparts := at_mk (st := s_l_parts) (ps := ["_law_tree"]) X G a7 l7 c7 k7 fun _ _ _ _ _ _ us hl => match us, hl with | [_], _ => rfl
  have D_remade := at_mk (st := s_l_remade) (ps := ["_law_tree", "_law_parts_here"]) X G a8 l8 c8 k8 fun _ _ _ _ _ _ us hl => match us, hl with | [_, _], _ => rfl
  have D_places := at_mk (st := s_l_places) (ps := ["_law_tree", "_law_path", "_law_free"]) X G a9 l9 c9 k9 fun _ _ _ _ _ _ us hl => match us, hl with | [_, _, _], _ => rfl
  have D_luses := at_mk (st := s_l_uses) (ps := ["_law_tree", "_law_name", "_law_path", "_law_scope"]) X G a10 l10 c10 k10 fun _ _ _ _ _ _ us hl => match us, hl with | [_, _, _, _], _ => rfl
  have D_notakes := at_mk (st := s_l_without_takes) (ps := ["_law_tree"]) X G a11 l11 c11 k11 fun _ _ _ _ _ _ us hl => match us, hl with | [_], _ => rfl
  have D_winds := at_mk (st := s_l_marked_winds) (ps := ["_law_tree"]) X G a12 l12 c12 k12 fun _ _ _ _ _ _ us hl => match us, hl with | [_], _ => rfl
  have D_lit := at_mk (st := s_l_some_literal) (ps := ["_law_hand_here"]) X G a13 l13 c13 k13 fun _ _ _ _ _ _ us hl => match us, hl with | [_], _ => rfl
  have D_calm := at_mk (st := s_l_some_calm) (ps := ["_law_hand_here"]) X G a14 l14 c14 k14 fun _ _ _ _ _ _ us hl => match us, hl with | [_], _ => rfl
  have D_op := at_mk (st := s_l_some_op) (ps := ["_law_hand_here"]) X G a15 l15 c15 k15 fun _ _ _ _ _ _ us hl => match us, hl with | [_], _ => rfl
  have D_count := at_mk (st := s_l_count_on) (ps := ["_law_most", "_law_more", "_law_other"]) X G a16 l16 c16 k16 fun _ _ _ _ _ _ us hl => match us, hl with | [_, _, _], _ => rfl
  have D_again := at_mk (st := s_l_go_again) (ps := ["_law_hand_here"]) X G a17 l17 c17 k17 fun _ _ _ _ _ _ us hl => match us, hl with | [_], _ => rfl
  have D_grown := at_mk (st := s_l_grown) (ps := ["_law_hand_here", "_law_deep"]) X G a18 l18 c18 k18 fun _ _ _ _ _ _ us hl => match us, hl with | [_, _], _ => rfl
  have D_more := at_mk (st := s_l_grown_more) (ps := ["_law_hand_here", "_law_inner", "_law_name", "_law_pick_here"]) X G a19 l19 c19 k19 fun _ _ _ _ _ _ us hl => match us, hl with | [_, _, _, _], _ => rfl
  have D_rest := at_mk (st := s_l_grown_rest) (ps := ["_law_hand_here", "_law_inner", "_law_name", "_law_pick_here"]) X G a20 l20 c20 k20 fun _ _ _ _ _ _ us hl => match us, hl with | [_, _, _, _], _ => rfl
  have D_spiced := at_mk (st := s_l_spiced) (ps := ["_law_hand_here", "_law_deep"]) X G a21 l21 c21 k21 fun _ _ _ _ _ _ us hl => match us, hl with | [_, _], _ => rfl
  have D_nested := at_mk (st := s_l_nested) (ps := ["_law_hand_here", "_law_inner", "_law_name"]) X G a22 l22 c22 k22 fun _ _ _ _ _ _ us hl => match us, hl with | [_, _, _], _ => rfl
  refine ⟨PySem.W.fnOf "law" "law" (defArgs s_law) (defBody s_law) (defScope s_law) .none kV23 dc23 pm23 an23 cd23 ct23, fun s v => .of_eq rfl, fun base _ _ => ?_⟩
  have c1 := ok_mix (P := l.prog) (w := w) (base := base) T D_mix
  have c2 := ok_draw T c1 D_draw
  have c3 := ok_pick T c2 D_pick
  have p1 := ok_parts_of (P := l.prog) (w := w) (base := base) T D_parts
  have p2 := ok_names_bound T p1 D_bound
  have p3 := ok_uses_of T p1 p2 D_uses 64
  have q1 := ok_l_parts (P := l.prog) (w := w) (base := base) T D_lparts
  have q2 := ok_l_remade (P := l.prog) (w := w) (base := base) T D_remade
  have q3 := ok_l_places T q1 D_places 64
  have q4 := ok_l_uses T q1 D_luses 64
  have q5 := ok_l_without_takes T q1 q2 D_notakes 60
  have q6 := ok_l_marked_winds T q1 q2 D_winds 60
  have g1 := ok_l_some_literal T c2 D_lit
  have g2 := ok_l_some_calm T c2 c3 g1 D_calm
  have g3 := ok_l_some_op T c2 c3 g1 D_op
  have g4 := ok_l_count_on (P := l.prog) (w := w) (base := base) T D_count
  have g5 := ok_l_go_again T c2 c3 g4 D_again
  have g6 := ok_l_grown_more T c2 c3 g1 g3 D_more
  have g7 := ok_l_grown_rest T c2 c3 g1 g5 D_rest
  have g8 := ok_l_grown T c2 g1 g2 g3 g5 g6 g7 D_grown 8
  have g9 := ok_l_spiced T c2 g8 g5 q5 q6 D_spiced
  exact ok_law T ⟨ok_hand T D_hand, c2, c3, g9, q3, ok_l_nested T c2 c3 D_nested, p3, q4⟩ (fun_mk (st := s_law) l23 c23 k23)
theorem walk {l : PySem.W.OpenLaw} {q : Program} {loose : List Str} {XP : (Str → Option Value) → Heap → Prop} {YP : World → Heap → Prop} {d : DefRec} {K : Params → PySem.W.Frag} (hn : l.most = some 63) (hdf : d.params.defaults = [])
    (hY : ∀ (w : World) (h : Heap), YP w h → (K w.params).In h)
    (F : ∀ (w : World) (mg : Str → Option Value) (fa : Addr) (h : Heap), (K w.params).In h → h.Ns mainGlobals mg → mg d.name = some (.ref fa) →
      ∃ fd : FuncData, (∀ (s : Shared) (u : Value), BindsTo s fd ⟨[u], []⟩ [("_law_script", u)]) ∧ ∀ base : Heap, (K w.params).In base → base.Ns mainGlobals mg → LawAt l.prog w (K w.params) mg base 68 fa fd ["_law_script"] (spLaw (K w.params))) :
    PySem.W.WalkO q loose XP YP l.row.toRowW d [] (fun f vs => PySem.call f vs) :=
  walk_law (n := 63) (k := 68) (x := "_law_script") (sp := fun K => spLaw K) hn (by decide) hdf ⟨rfl, by decide, by decide⟩ hY F fun _ _ a ns hl _ hS => ⟨a, ns, rfl, hS, hl, fun _ => rfl⟩
end K13

open PySem PySem.W PyProof.Rows in
set_option maxRecDepth 100000 in
set_option maxHeartbeats 0 in
theorem PySem.Challenge.cw_goonagain_k13_uses_of_names_holds : PySem.Challenge.rw_goonagain_k13_uses_of_names.Holds := by
  w_on; o_law; k_head; (case hw => w_witness2)
  k_fill
  refine K13.walk (l := PySem.Challenge.rw_goonagain_k13_uses_of_names) rfl rfl (fun w h Y => PySem.W.kIn_of Y) ?F
  case F =>
    intro w mg fa h KX G hmg
    refine' K13.all_mk KX G hmg ?a0 ?l0 ?c0 ?k0 ?a1 ?l1 ?c1 ?k1 ?a2 ?l2 ?c2 ?k2 ?a3 ?l3 ?c3 ?k3 ?a4 ?l4 ?c4 ?k4 ?a5 ?l5 ?c5 ?k5 ?a6 ?l6 ?c6 ?k6 ?a7 ?l7 ?c7 ?k7 ?a8 ?l8 ?c8 ?k8 ?a9 ?l9 ?c9 ?k9 ?a10 ?l10 ?c10 ?k10 ?a11 ?l11 ?c11 ?k11 ?a12 ?l12 ?c12 ?k12 ?a13 ?l13 ?c13 ?k13 ?a14 ?l14 ?c14 ?k14 ?a15 ?l15 ?c15 ?k15 ?a16 ?l16 ?c16 ?k16 ?a17 ?l17 ?c17 ?k17 ?a18 ?l18 ?c18 ?k18 ?a19 ?l19 ?c19 ?k19 ?a20 ?l20 ?c20 ?k20 ?a21 ?l21 ?c21 ?k21 ?a22 ?l22 ?c22 ?k22 ?a23 ?l23 ?c23 ?k23 ?z_abs ?z_enumerate ?z_int ?z_len ?z_range ?z_str ?z_tuple
    (case a0 => k_is)
    (case l0 => k_is)
    (case c0 => k_is)
    (case k0 => k_is)
    (case a1 => k_is)
    (case l1 => k_is)
    (case c1 => k_is)
    (case k1 => k_is)
    (case a2 => k_is)
    (case l2 => k_is)
    (case c2 => k_is)
    (case k2 => k_is)
    (case a3 => k_is)
    (case l3 => k_is)
    (case c3 => k_is)
    (case k3 => k_is)
    (case a4 => k_is)
    (case l4 => k_is)
    (case c4 => k_is)
    (case k4 => k_is)
    (case a5 => k_is)
    (case l5 => k_is)
    (case c5 => k_is)
    (case k5 => k_is)
    (case a6 => k_is)
    (case l6 => k_is)
    (case c6 => k_is)
    (case k6 => k_is)
    (case a7 => k_is)
    (case l7 => k_is)
    (case c7 => k_is)
    (case k7 => k_is)
    (case a8 => k_is)
    (case l8 => k_is)
    (case c8 => k_is)
    (case k8 => k_is)
    (case a9 => k_is)
    (case l9 => k_is)
    (case c9 => k_is)
    (case k9 => k_is)
    (case a10 => k_is)
    (case l10 => k_is)
    (case c10 => k_is)
    (case k10 => k_is)
    (case a11 => k_is)
    (case l11 => k_is)
    (case c11 => k_is)
    (case k11 => k_is)
    (case a12 => k_is)
    (case l12 => k_is)
    (case c12 => k_is)
    (case k12 => k_is)
    (case a13 => k_is)
    (case l13 => k_is)
    (case c13 => k_is)
    (case k13 => k_is)
    (case a14 => k_is)
    (case l14 => k_is)
    (case c14 => k_is)
    (case k14 => k_is)
    (case a15 => k_is)
    (case l15 => k_is)
    (case c15 => k_is)
    (case k15 => k_is)
    (case a16 => k_is)
    (case l16 => k_is)
    (case c16 => k_is)
    (case k16 => k_is)
    (case a17 => k_is)
    (case l17 => k_is)
    (case c17 => k_is)
    (case k17 => k_is)
    (case a18 => k_is)
    (case l18 => k_is)
    (case c18 => k_is)
    (case k18 => k_is)
    (case a19 => k_is)
    (case l19 => k_is)
    (case c19 => k_is)
    (case k19 => k_is)
    (case a20 => k_is)
    (case l20 => k_is)
    (case c20 => k_is)
    (case k20 => k_is)
    (case a21 => k_is)
    (case l21 => k_is)
    (case c21 => k_is)
    (case k21 => k_is)
    (case a22 => k_is)
    (case l22 => k_is)
    (case c22 => k_is)
    (case k22 => k_is)
    (case a23 => k_is)
    (case l23 => k_is)
    (case c23 => k_is)
    (case k23 => k_is)
    (case z_abs => k_is)
    (case z_enumerate => k_is)
    (case z_int => k_is)
    (case z_len => k_is)
    (case z_range => k_is)
    (case z_str => k_is)
    (case z_tuple => k_is)
