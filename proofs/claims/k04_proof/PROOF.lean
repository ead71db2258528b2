import PyProof.Rows.All
import Wide.All
import OpenK.AllK
import Wide.FinOn
import HandS.ForMost
import HandS.Codes
import HandS.Wide
import HandS.TupAny
import HandS.Conv
import HandS.RevRange
import HandS.SortInts
import HandS.RaiseMore
import HandS.Style
import HandS.Walk
import HandS.Zip
import HandS.More
import KE.GoesEnum
import KE.GoesMore
import KE.KDictList
import KE.KDictSum
import HandS.IsInst
import HandS.Deep
import HandS.Exc
import HandS.ExcOwn
import HandS.ExcIs
import HandS.ExcField
import HandS.WordsExc
import HandS.TupMul
import PyProof.Rows.SortShellAny
import HandS.ExcInit
import HandS.ExcValue
import KE.GoesZip
import HandS.RevTup
import HandS.MapObj
import KE.KDictZip
import PySem.Challenge.RW_goonagain_k04_whole_set_names_held_in_pa
set_option Elab.async false
set_option maxRecDepth 100000
set_option maxHeartbeats 4000000
/-! common part: what a call keeps, data, repr, the hand of draws -/
namespace Cm
open PySem L2

/-! ### what is kept but at the lists M -/
structure Kp (M : Addr → Prop) (H H' : Hp) : Prop where
  st : ∀ a o, ¬ M a → H a = some o → H' a = some o
  l1 : ∀ a, M a → ∃ xs, H a = some (.lst xs)
  l2 : ∀ a, M a → ∃ xs, H' a = some (.lst xs)
theorem Kp.trans {M : Addr → Prop} {H H1 H2 : Hp} (a : Kp M H H1) (b : Kp M H1 H2) : Kp M H H2 :=
  ⟨fun x o n e => b.st x o n (a.st x o n e), a.l1, b.l2⟩
theorem Kp.of_same {M : Addr → Prop} {H H' : Hp} (h : ∀ a, M a → ∃ xs, H a = some (.lst xs)) (s : Same H H') : Kp M H H' :=
  ⟨fun x o _ e => s x o e, h, fun a m => let ⟨xs, e⟩ := h a m; ⟨xs, s a _ e⟩⟩
theorem Kp.refl {M : Addr → Prop} {H : Hp} (h : ∀ a, M a → ∃ xs, H a = some (.lst xs)) : Kp M H H := .of_same h (Same.refl H)
theorem same_new {H : Hp} {p : Addr} {o : HO} (h : H p = Option.none) : Same H (upd H p o) := fun b u e => by
  rw [upd_ne (ne_of_none e h)]
  exact e
theorem Kp.new {M : Addr → Prop} {H : Hp} (h : ∀ a, M a → ∃ xs, H a = some (.lst xs)) {p : Addr} {o : HO} (hp : H p = Option.none) : Kp M H (upd H p o) :=
  .of_same h (same_new hp)
theorem Kp.put {M : Addr → Prop} {H : Hp} (h : ∀ a, M a → ∃ xs, H a = some (.lst xs)) {p : Addr} {ys : List V} (hp : M p) : Kp M H (upd H p (.lst ys)) :=
  ⟨fun x o n e => by
    rw [upd_ne (show x ≠ p by rintro rfl; exact n hp)]
    exact e, h, fun a m => by
    by_cases q : a = p
    · subst q
      exact ⟨ys, upd_same⟩
    · rw [upd_ne q]
      exact h a m⟩
theorem Kp.wider {M N : Addr → Prop} {H H' : Hp} (k : Kp M H H') (h : ∀ a, M a → N a) (l : ∀ a, N a → ∃ xs, H a = some (.lst xs)) : Kp N H H' :=
  ⟨fun x o n e => k.st x o (fun m => n (h x m)) e, l, fun a m => by
    by_cases q : M a
    · exact k.l2 a q
    · obtain ⟨xs, e⟩ := l a m
      exact ⟨xs, k.st a _ q e⟩⟩
theorem Kp.tup {M : Addr → Prop} {K : PySem.W.Frag} {H H' : Hp} {a : Addr} {xs : List V} (k : Kp M H H') (h : SqT K H a xs) : SqT K H' a xs := by
  have no : ∀ o, H a = some o → (∀ ys, o ≠ .lst ys) → ¬ M a := fun o e n m => by
    obtain ⟨ys, e2⟩ := k.l1 a m
    rw [e] at e2
    exact n ys (Option.some.inj e2)
  rcases h with (h | ⟨o, h⟩) | h
  · exact .inl (.inl (k.st _ _ (no _ h fun _ z => nomatch z) h))
  · exact .inl (.inr ⟨o, k.st _ _ (no _ h fun _ z => nomatch z) h⟩)
  · exact .inr h
theorem Kp.free {M : Addr → Prop} {H H' : Hp} {p : Addr} (k : Kp M H H') (h : H' p = Option.none) : H p = Option.none := by
  cases e : H p with
  | none => rfl
  | some o =>
    by_cases q : M p
    · obtain ⟨xs, e2⟩ := k.l2 p q
      rw [h] at e2
      cases e2
    · have := k.st p o q e
      rw [h] at this
      cases this
theorem Kp.m_of {M : Addr → Prop} {H H' : Hp} {p : Addr} (k : Kp M H H') (h : H p = Option.none) : ¬ M p := fun m => by
  obtain ⟨xs, e⟩ := k.l1 p m
  rw [h] at e
  cases e

/-! ### data -/
mutual
/-- no list, no dict in it -/
def flatD : PyData → Bool
  | .list _ => false
  | .dict _ => false
  | .tuple xs => flatDs xs
  | _ => true
def flatDs : List PyData → Bool
  | [] => true
  | x :: xs => flatD x && flatDs xs
end
mutual
theorem dp_keep {K : PySem.W.Frag} {H H' : Hp} (k : ∀ a xs, SqT K H a xs → SqT K H' a xs) : ∀ (d : PyData) (v : V), flatD d = true → Dp K H v d → Dp K H' v d
  | .none, _, _, h => by cases h; exact .non
  | .bool _, _, _, h => by cases h; exact .bl _
  | .int _, _, _, h => by cases h; exact .int _
  | .str _, _, _, h => by cases h; exact .str _
  | .list _, _, f, _ => by simp [flatD] at f
  | .dict _, _, f, _ => by simp [flatD] at f
  | .tuple ds, _, f, h => by
    cases h with
    | tup hs ha => exact .tup (k _ _ hs) (dps_keep k ds _ (by simpa [flatD] using f) ha)
theorem dps_keep {K : PySem.W.Frag} {H H' : Hp} (k : ∀ a xs, SqT K H a xs → SqT K H' a xs) : ∀ (ds : List PyData) (vs : List V), flatDs ds = true → DpAll K H vs ds → DpAll K H' vs ds
  | [], _, _, h => by cases h; exact .nil
  | d :: ds, _, f, h => by
    cases h with
    | cons h1 h2 =>
      have f' : flatD d = true ∧ flatDs ds = true := by simpa [flatDs] using f
      exact .cons (dp_keep k d _ f'.1 h1) (dps_keep k ds _ f'.2 h2)
end
mutual
/-- all lists in it are kept as well -/
theorem dp_same {K : PySem.W.Frag} {H H' : Hp} (s : Same H H') : ∀ (d : PyData) (v : V), Dp K H v d → Dp K H' v d
  | .none, _, h => by cases h; exact .non
  | .bool _, _, h => by cases h; exact .bl _
  | .int _, _, h => by cases h; exact .int _
  | .str _, _, h => by cases h; exact .str _
  | .dict _, _, h => by cases h
  | .list ds, _, h => by
    cases h with
    | lst hs ha => exact .lst (s.seq hs) (dps_same s ds _ ha)
  | .tuple ds, _, h => by
    cases h with
    | tup hs ha =>
      refine .tup ?_ (dps_same s ds _ ha)
      rcases hs with (h | ⟨o, h⟩) | h
      · exact .inl (.inl (s _ _ h))
      · exact .inl (.inr ⟨o, s _ _ h⟩)
      · exact .inr h
theorem dps_same {K : PySem.W.Frag} {H H' : Hp} (s : Same H H') : ∀ (ds : List PyData) (vs : List V), DpAll K H vs ds → DpAll K H' vs ds
  | [], _, h => by cases h; exact .nil
  | d :: ds, _, h => by
    cases h with
    | cons h1 h2 => exact .cons (dp_same s d _ h1) (dps_same s ds _ h2)
end
theorem DpAll.len {K : PySem.W.Frag} {H : Hp} : ∀ {vs : List V} {ds : List PyData}, DpAll K H vs ds → vs.length = ds.length
  | _, _, .nil => rfl
  | _, _, .cons _ h => congrArg (· + 1) (DpAll.len h)
theorem DpAll.at {K : PySem.W.Frag} {H : Hp} : ∀ {vs : List V} {ds : List PyData} {i : Nat} {d : PyData}, DpAll K H vs ds → ds[i]? = some d → ∃ v, vs[i]? = some v ∧ Dp K H v d
  | _, _, 0, d, .cons h _, e => by
    simp at e
    subst e
    exact ⟨_, rfl, h⟩
  | _, _, i + 1, d, .cons _ h, e => by
    obtain ⟨v, h1, h2⟩ := DpAll.at (i := i) (d := d) h (by simpa using e)
    exact ⟨v, by simpa using h1, h2⟩
theorem DpAll.atV {K : PySem.W.Frag} {H : Hp} : ∀ {vs : List V} {ds : List PyData} {i : Nat} {v : V}, DpAll K H vs ds → vs[i]? = some v → ∃ d, ds[i]? = some d ∧ Dp K H v d
  | _, _, 0, d, .cons h _, e => by
    simp at e
    subst e
    exact ⟨_, rfl, h⟩
  | _, _, i + 1, d, .cons _ h, e => by
    obtain ⟨v, h1, h2⟩ := DpAll.atV (i := i) (v := d) h (by simpa using e)
    exact ⟨v, by simpa using h1, h2⟩
theorem DpAll.snoc {K : PySem.W.Frag} {H : Hp} {v : V} {d : PyData} (h : Dp K H v d) : ∀ {vs : List V} {ds : List PyData}, DpAll K H vs ds → DpAll K H (vs ++ [v]) (ds ++ [d])
  | _, _, .nil => .cons h .nil
  | _, _, .cons a b => .cons a (DpAll.snoc h b)
theorem DpAll.app {K : PySem.W.Frag} {H : Hp} : ∀ {vs ws : List V} {ds es : List PyData}, DpAll K H vs ds → DpAll K H ws es → DpAll K H (vs ++ ws) (ds ++ es)
  | _, _, _, _, .nil, h => h
  | _, _, _, _, .cons a b, h => .cons a (DpAll.app b h)
theorem DpAll.take {K : PySem.W.Frag} {H : Hp} (n : Nat) : ∀ {vs : List V} {ds : List PyData}, DpAll K H vs ds → DpAll K H (vs.take n) (ds.take n) := by
  induction n with
  | zero => intro vs ds _; exact .nil
  | succ n ih =>
    intro vs ds h
    cases h with
    | nil => exact .nil
    | cons a b => exact .cons a (ih b)
theorem DpAll.drop {K : PySem.W.Frag} {H : Hp} (n : Nat) : ∀ {vs : List V} {ds : List PyData}, DpAll K H vs ds → DpAll K H (vs.drop n) (ds.drop n) := by
  induction n with
  | zero => intro vs ds h; exact h
  | succ n ih =>
    intro vs ds h
    cases h with
    | nil => exact .nil
    | cons a b => exact ih b
theorem DpAll.rev {K : PySem.W.Frag} {H : Hp} : ∀ {vs : List V} {ds : List PyData}, DpAll K H vs ds → DpAll K H vs.reverse ds.reverse
  | _, _, .nil => .nil
  | _, _, .cons a b => by
    rw [List.reverse_cons, List.reverse_cons]
    exact DpAll.snoc a (DpAll.rev b)
theorem dpAll_ints {K : PySem.W.Frag} {H : Hp} : ∀ ns : List Int, DpAll K H (ns.map V.int) (ns.map PyData.int)
  | [] => .nil
  | n :: ns => .cons (.int n) (dpAll_ints ns)

/-! ### repr of data -/
/-- what repr sees at a value: data of lists and tuples, or a dict of int keys whose values are data without lists -/
def Rp (K : PySem.W.Frag) (H : Hp) (x : V) (d : PyData) : Prop :=
  Dp K H x d ∨ ∃ (a : Addr) (kvs : List (Key × V)) (es : List (Int × PyData)), x = .ref a ∧ H a = some (.dK kvs) ∧ kvs.map (·.1) = es.map (fun e => Sum.inl e.1) ∧
    DpAll K H (kvs.map (·.2)) (es.map (·.2)) ∧ flatDs (es.map (·.2)) = true ∧ d = .dict (es.map fun e => (.int e.1, e.2))
mutual
/-- short leaves -/
def okD : PyData → Bool
  | .int i => decide (i.natAbs < 10 ^ 12)
  | .str x => PyData.leavesShort 13 (.str x)
  | .list xs => okDs xs
  | .tuple xs => okDs xs
  | .dict kvs => okDk kvs
  | _ => true
def okDs : List PyData → Bool
  | [] => true
  | x :: xs => okD x && okDs xs
def okDk : List (PyData × PyData) → Bool
  | [] => true
  | (k, v) :: r => okD k && okD v && okDk r
end
mutual
theorem okD_show : ∀ d : PyData, okD d = true → d.showable = true ∧ d.leavesShort 13 = true
  | .none, _ => by constructor <;> first | rfl | decide +kernel | simp [PyData.showable, PyData.leavesShort]
  | .bool b, _ => by cases b <;> constructor <;> first | rfl | decide +kernel
  | .int i, h => by
    have h' : i.natAbs < 10 ^ 12 := by simpa [okD] using h
    refine ⟨?_, ?_⟩
    · have : i.natAbs.log2 < 1920 := by
        by_cases z : i.natAbs = 0
        · rw [z]; decide
        · refine Nat.lt_of_lt_of_le ((Nat.log2_lt z).mpr (show i.natAbs < 2 ^ 64 from Nat.lt_of_lt_of_le h' (by decide))) (by decide)
      simpa [PyData.showable] using this
    · have := PyData.shown_int_le h'
      simpa [PyData.leavesShort] using this
  | .str x, h => by
    exact ⟨by simp [PyData.showable], by simpa only [okD] using h⟩
  | .list xs, h => by
    have := okDs_show xs (by simpa [okD] using h)
    exact ⟨by simpa [PyData.showable] using this.1, by simpa [PyData.leavesShort] using this.2⟩
  | .tuple xs, h => by
    have := okDs_show xs (by simpa [okD] using h)
    exact ⟨by simpa [PyData.showable] using this.1, by simpa [PyData.leavesShort] using this.2⟩
  | .dict kvs, h => by
    have := okDk_show kvs (by simpa [okD] using h)
    exact ⟨by simpa [PyData.showable] using this.1, by simpa [PyData.leavesShort] using this.2⟩
theorem okDs_show : ∀ xs : List PyData, okDs xs = true → PyData.showableAll xs = true ∧ PyData.leavesShortAll 13 xs = true
  | [], _ => ⟨by simp [PyData.showableAll], by simp [PyData.leavesShortAll]⟩
  | x :: xs, h => by
    have h' : okD x = true ∧ okDs xs = true := by simpa [okDs] using h
    have a := okD_show x h'.1
    have b := okDs_show xs h'.2
    exact ⟨by simp [PyData.showableAll, a.1, b.1], by simp [PyData.leavesShortAll, a.2, b.2]⟩
theorem okDk_show : ∀ xs : List (PyData × PyData), okDk xs = true → PyData.showableKv xs = true ∧ PyData.leavesShortKv 13 xs = true
  | [], _ => ⟨by simp [PyData.showableKv], by simp [PyData.leavesShortKv]⟩
  | (k, v) :: xs, h => by
    have h' : (okD k = true ∧ okD v = true) ∧ okDk xs = true := by simpa [okDk] using h
    have a := okD_show k h'.1.1
    have b := okD_show v h'.1.2
    have c := okDk_show xs h'.2
    exact ⟨by simp [PyData.showableKv, a.1, b.1, c.1], by simp [PyData.leavesShortKv, a.2, b.2, c.2]⟩
end
mutual
theorem no_as {h : Heap} : ∀ (d : PyData) (u : Value) (as : List Addr), flatD d = true → Reads h u d as → as = []
  | .none, _, _, _, r => by cases r; rfl
  | .bool _, _, _, _, r => by cases r; rfl
  | .int _, _, _, _, r => by cases r; rfl
  | .str _, _, _, _, r => by cases r; rfl
  | .list _, _, _, f, _ => by simp [flatD] at f
  | .dict _, _, _, f, _ => by simp [flatD] at f
  | .tuple ds, _, _, f, r => by
    cases r with
    | tuple _ _ _ ha => exact no_ass ds _ _ (by simpa [flatD] using f) ha
theorem no_ass {h : Heap} : ∀ (ds : List PyData) (us : List Value) (as : List Addr), flatDs ds = true → ReadsAll h us ds as → as = []
  | [], _, _, _, r => by cases r; rfl
  | d :: ds, _, _, f, r => by
    have f' : flatD d = true ∧ flatDs ds = true := by simpa [flatDs] using f
    cases r with
    | cons r1 r2 => rw [no_as d _ _ f'.1 r1, no_ass ds _ _ f'.2 r2]; rfl
end
mutual
theorem dp_nodict {K : PySem.W.Frag} {H : Hp} : ∀ (d : PyData) (v : V), Dp K H v d → d.hasDict = false
  | .none, _, _ => by simp [PyData.hasDict]
  | .bool _, _, _ => by simp [PyData.hasDict]
  | .int _, _, _ => by simp [PyData.hasDict]
  | .str _, _, _ => by simp [PyData.hasDict]
  | .dict _, _, h => by cases h
  | .list ds, _, h => by
    cases h with
    | lst _ ha => simpa [PyData.hasDict] using dps_nodict ds _ ha
  | .tuple ds, _, h => by
    cases h with
    | tup _ ha => simpa [PyData.hasDict] using dps_nodict ds _ ha
theorem dps_nodict {K : PySem.W.Frag} {H : Hp} : ∀ (ds : List PyData) (vs : List V), DpAll K H vs ds → PyData.hasDictAll ds = false
  | [], _, _ => by simp [PyData.hasDictAll]
  | d :: ds, _, h => by
    cases h with
    | cons h1 h2 => simp [PyData.hasDictAll, dp_nodict d _ h1, dps_nodict ds _ h2]
end
theorem flatDs_ints : ∀ ks : List Int, flatDs (ks.map PyData.int) = true
  | [] => rfl
  | k :: ks => by simp [flatDs, flatD, flatDs_ints ks]
section
variable {X : Cx}
theorem dict_keys {prog : Program} {w : World} {h : Heap} : ∀ (es : List (Int × PyData)) (kvs : List (Key × V)) (l : List DictEntry) (vs : List (Key × Value)), kvs.map (·.1) = es.map (fun e => Sum.inl e.1) → KV kvs vs → Pairs (mixKind prog w) l vs →
    ReadsAll h (l.map (·.key)) (es.map fun e => PyData.int e.1) [] ∧ Vals (kvs.map (·.2)) (l.map (·.val))
  | [], kvs, l, vs, hk, r, p => by
    cases kvs with
    | cons a b => simp at hk
    | nil =>
      cases r
      cases p
      exact ⟨.nil, .nil⟩
  | e :: es, kvs, l, vs, hk, r, p => by
    cases kvs with
    | nil => simp at hk
    | cons a b =>
      simp only [List.map_cons, List.cons.injEq] at hk
      cases r with
      | @cons _ v _ vs' r1 r2 =>
        cases p with
        | @cons en _ l' _ p1 p2 p3 =>
          obtain ⟨q1, q2⟩ := dict_keys es b l' vs' hk.2 r2 p3
          have p1' : keyIs v.1 en.key = true := p1
          rw [← r1.1, hk.1] at p1'
          obtain ⟨t, et⟩ := Value.isInt_shape (k := e.1) (v := en.key) p1'
          refine ⟨?_, .cons ?_ q2⟩
          · rw [List.map_cons, List.map_cons, et]
            exact ReadsAll.cons (as := []) (bs := []) (Reads.int _ _) q1
          · show RelV a.2 en.val
            rw [p2]
            exact r1.2
def rRepr (K : PySem.W.Frag) : List V → Hp → VK → Prop := fun xs H Q => ∃ x d, xs = [x] ∧ Rp K H x d ∧ okD d = true ∧ d.depth ≤ 60 ∧ d.weight ≤ 2 ^ 20 ∧ Q (.str d.shown) H
theorem call_reprD (hg : X.A.guards = some []) (hu : X.A.units + 64 < cLine) : CallR X (.builtin "repr") (rRepr X.K) := by
  intro pins s σ H xs us Q I r h
  obtain ⟨x, d, rfl, hd, ok, hdep, hw, q⟩ := h
  obtain ⟨u, rfl, rx⟩ := vals1 r
  obtain ⟨hsh, hls⟩ := okD_show d ok
  have hsz : d.shown.length ≤ sizeLine := PyData.shown_fits (by decide) (by decide) hls hw
  have fin : ∀ (a : Addr) (as : List Addr), u = .ref a → Reads s.heap u d as → (d.hasDict = true → sysModules ∉ as) → wpAny (model X.prog X.w) X.A (call (.builtin "repr") [u]) (EP X pins σ Q) X.xe s := fun a as e rd no => by
    subst e
    exact repr_of_reads' rd hsh no hg (by omega) (fun _ _ e => e) (fun h' u tk k => ⟨.str _, H, I.kept k, ⟨_, rfl⟩, q⟩) hsz
  rcases hd with hd | ⟨a, kvs, es, rfl, ha, hk, hv, hf, rfl⟩
  · obtain ⟨as, rd⟩ := Dp.reads I d x u hd rx
    cases hd with
    | non => cases rx; exact P.repr_of_none ⟨.str _, H, I.tok _, ⟨_, rfl⟩, q⟩
    | bl b => cases rx; exact P.repr_of_bool ⟨.str _, H, I.tok _, ⟨_, rfl⟩, by cases b <;> exact q⟩
    | int i =>
      obtain ⟨t, rfl⟩ := rx
      exact P.repr_of_int (by simpa [PyData.showable] using hsh) ⟨.str _, H, I.tok _, ⟨_, rfl⟩, by simpa [PyData.shown] using q⟩
    | str z =>
      obtain ⟨t, rfl⟩ := rx
      exact P.repr_of_str ⟨.str _, H, I.tok _, ⟨_, rfl⟩, by simpa [PyData.shown] using q⟩ (by simpa [PyData.shown] using hsz)
    | lst hs ha =>
      have nd := dp_nodict _ _ (Dp.lst hs ha)
      cases rx
      exact fin _ as rfl rd fun z => by rw [nd] at z; cases z
    | tup hs ha =>
      have nd := dp_nodict _ _ (Dp.tup hs ha)
      cases rx
      exact fin _ as rfl rd fun z => by rw [nd] at z; cases z
  · cases rx
    obtain ⟨_, hsys, vs, rv, ob, dl, ep, e1, e2, e3, _, e5, _⟩ := (show kvs.length ≤ sizeLine ∧ (a == sysModules) = false ∧ ∃ vs, KV kvs vs ∧ s.heap.DictOf (mixKind X.prog X.w) a vs from dk_of I.hok ha)
    obtain ⟨q1, q2⟩ := dict_keys es kvs dl.toList vs hk rv e5
    obtain ⟨bs, q3⟩ := Dp.readsAll I _ _ _ hv q2
    obtain rfl := no_ass _ _ _ hf q3
    have rd : Reads s.heap (.ref a) (.dict (es.map fun e => (PyData.int e.1, e.2))) (a :: [] ++ []) :=
      .dict e1 e2.1 e3 (by rw [List.map_map]; exact q1) (by rw [List.map_map]; exact q3)
    exact fin a _ rfl rd fun _ m => by
      have : sysModules = a := by simpa using m
      rw [← this] at hsys
      simp at hsys
end
end Cm

/-! a law's call whose body may ask repr: nothing is under repr there -/
namespace Cm
open PySem L2 PySem.Spec PyProof.Rows
section
variable {P : Program} {w : World} {K : PySem.W.Frag} {mg : Str → Option Value} {base : Heap}
/-- the promise of the law's def, where no repr is under way -/
def LawAt (P : Program) (w : World) (K : PySem.W.Frag) (mg : Str → Option Value) (base : Heap) (k : Nat) (f : Addr) (fd : FuncData) (ps : List Str) (sp : Sp) : Prop :=
  ∀ (A : Around) (outer : List Env) (s : Shared) (H : Hp) (args : Args) (us : List Value) (vs : List V) (Q : VK) (E : XK),
    A.guards = some [] → Room k A → Env0 P w K mg base A outer s H → BindsTo s fd args (ps.zip us) → Vals vs us → sp vs H Q E →
      codeAny (model P w) A (.call (.ref f) args) (CR CX0 outer P w H s Q E) s
theorem lawAt_of {x : Str} {st : Stmt} {f : Addr} {fd : FuncData} {N ps : List Str} {k : Nat} {sp : Sp} (F : Fun K x x st f fd) (S : FnScope N ps (defScope st))
    (len : ∀ vs H Q E, sp vs H Q E → vs.length = ps.length)
    (hb : ∀ (cdv : Value) (A : Around) (outer : List Env) (s : Shared) (H : Hp) (vs : List V) (Q : VK) (E : XK), A.guards = some [] →
      Room k (A.deeper (envOfC x (defScope st) s.heap.objs.size f cdv)) → sp vs H Q E →
      ∃ t, PSs (cxOf CX0 P w K mg base N x (defScope st) f cdv A outer s H E).nox (defBody st) t ∧ t { nx := fun _ H' => Q .non H', rt := Q } (start N vs) H) :
    LawAt P w K mg base (k + 1) f fd ps sp := by
  intro A outer s H args us vs Q E hg hr e0 hbind rv hs
  obtain ⟨oc, od, kV, doc, pm, an, cdv, ct, osl, rfl, lk, hcd⟩ := F.ex
  have keeps : ∀ b o, base.get? b = some o → s.heap.get? b = some o := fun b o e => (e0.bs b o e).1
  have KX : K.In s.heap := e0.mod.kin.keeps keeps
  refine codeAny_call_function hr.depth (KX _ _ lk) rfl S.co S.gen rfl (PySem.W.codeRec_of KX hcd) (hbind _ _ _ _ ?_)
  refine wpAny_newFunctionEnv_cells S.kind (fun z hz => ?_) fun env he s1 xc => ?_
  · rcases S.par z.1 (List.of_mem_zip (show (z.1, z.2) ∈ ps.zip us from hz)).1 with q | q
    · exact Or.inl q
    · exact Or.inr ⟨q, PySem.W.cellsFrom_some _ _ _ (Or.inl q)⟩
  · subst he
    refine ⟨(e0.mod.nolimit.keeps keeps).keeps xc.toInCall.keep, codeAny_func ?_⟩
    obtain ⟨t, ht, hq⟩ := hb cdv A outer s H vs Q E hg (hr.deeper _) hs
    have I := inv_start (E := E) (CX := CX0) S hr.hd e0 (len _ _ _ _ hs) rv xc
    refine wpAny_mono (ht.nox.run [] s1 (start N vs) H _ I hq) (fun fl s' hz => ?_) fun e s' hz => hz
    cases fl with
    | ret u =>
      obtain ⟨v, _, H', J, r, q⟩ := hz
      exact ⟨v, H', J.os, J.bare, J.base, J.hok, r, q⟩
    | next =>
      obtain ⟨_, H', J, q⟩ := hz
      exact ⟨V.non, H', J.os, J.bare, J.base, J.hok, rfl, q⟩
    | brk =>
      obtain ⟨_, _, _, q⟩ := hz
      exact q.elim
    | cont =>
      obtain ⟨_, _, _, q⟩ := hz
      exact q.elim
end
/-- the script tracked at a: known to the object, or one of the module's own -/
def scriptH (a : Addr) (o : Obj) (ns : List Int) : Hp := fun b => if b = a then some (.frz o (.lst (ns.map V.int))) else Option.none
theorem law_goes {P : Program} {w : World} {K : PySem.W.Frag} {mg mb : Str → Option Value} {k : Nat} {fa a : Addr} {fd : FuncData} {x : Str} {sp : Sp} {s₁ : Shared} {vs : List Value} {ns : List Int}
    (KX : K.In s₁.heap) (hns : s₁.heap.Ns mainGlobals mg) (hb : s₁.heap.Ns builtinsNs mb)
    (hbb : ∀ x : Str, x ≠ "__name__" → mb x = bootBuiltins x) (hlim : s₁.heap.NoLimit) (hg : s₁.gens = #[])
    (ha : s₁.heap.get? a = some { cls := .type "list", data := .seq vs.toArray }) (hi : IntsAre vs ns) (hl : ns.length ≤ sizeLine) (hr : Room k callerA)
    (F : ∀ b : Heap, K.In b → b.Ns mainGlobals mg → LawAt P w K mg b k fa fd [x] sp)
    (hbind : ∀ (s : Shared) (u : Value), BindsTo s fd ⟨[u], []⟩ [(x, u)])
    (hsp : ∀ H : Hp, Only H → SqL K H a (ns.map V.int) → sp [.ref a] H (fun v _ => v = .bl true) fun _ _ _ => False) :
    codeAny (model P w) callerA (.call (.ref fa) ⟨[.ref a], []⟩)
      (fun r s' => r = .ok (.ret (.bool true)) ∧ OldK s₁.heap s'.heap ∧ s'.os = s₁.os ∧ AllBare s'.gens) s₁ := by
  have rv := vals_ints hi
  have main : ∀ H : Hp, Only H → SqL K H a (ns.map V.int) → HOk P w H s₁.heap → (∀ b, H b ≠ Option.none → b = a ∧ K.lookup a = Option.none) →
      codeAny (model P w) callerA (.call (.ref fa) ⟨[.ref a], []⟩)
        (fun r s' => r = .ok (.ret (.bool true)) ∧ OldK s₁.heap s'.heap ∧ s'.os = s₁.os ∧ AllBare s'.gens) s₁ := by
    intro H hO hS hok hA
    have free_ns : ∀ {b : Addr} {o : Obj} {es : Array DictEntry} {ep : Nat}, s₁.heap.get? b = some o → o.data = .dict es ep → H b = Option.none := fun {b o es ep} e d => by
      by_cases q : H b = Option.none
      · exact q
      · obtain ⟨rfl, _⟩ := hA b q
        rw [ha] at e
        cases e
        cases d
    have ns_of : ∀ {b : Addr} {m : Str → Option Value}, s₁.heap.Ns b m → (hidT s₁.heap H).Ns b m := fun h => by
      obtain ⟨o, es, ep, e, d, r⟩ := h
      exact ⟨o, es, ep, hidT_get e (free_ns e d), d, r⟩
    have kin : K.In (hidT s₁.heap H) := fun b o e => hidT_get (KX b o e) (by
      by_cases q : H b = Option.none
      · exact q
      · obtain ⟨rfl, q2⟩ := hA b q
        rw [q2] at e
        cases e)
    obtain ⟨mc, l1, l2⟩ := hlim
    have e0 : Env0 P w K mg (hidT s₁.heap H) callerA [] s₁ H :=
      { frames := rfl, mod := ⟨kin, ns_of hns, ⟨mb, ns_of hb, hbb⟩, ⟨mc, ns_of l1, l2⟩⟩, bs := fun b o e => of_hidT e, bsz := Nat.le_of_eq (hidT_size _ _),
        funs := trivial, frf := fun b z => absurd (show b ∈ ([] : List Addr) from z) (by simp), hok := hok, bare := .of_eq hg }
    have run := F _ kin (ns_of hns) callerA [] s₁ H ⟨[.ref a], []⟩ [.ref a] [.ref a] _ _ rfl hr e0 (hbind s₁ (.ref a)) (.cons rfl .nil) (hsp H hO hS)
    refine codeAny_mono run fun r s' h => ?_
    rcases r with e | fl
    · exact False.elim h
    · cases fl with
      | ret u =>
        obtain ⟨v, H', os, bare, un, hok', r', q⟩ := h
        have q' : v = .bl true := q
        subst q'
        have eu : u = Value.bool true := r'
        subst eu
        refine ⟨rfl, OldK.of_keep fun b o e => ?_, os, bare⟩
        by_cases q : H b = Option.none
        · exact un.keep b o e q (fun z => absurd (show b ∈ ([] : List Addr) from z) (by simp)) (by simp)
        · rcases hO b with z | ⟨ob, xs, z⟩
          · exact absurd z q
          · have e1 := (hok b _ z).1
            have e2 := (hok' b _ (un.frzs b ob _ z)).1
            rw [e] at e1
            cases e1
            exact e2
      | next => exact False.elim h
      | brk => exact False.elim h
      | cont => exact False.elim h
  by_cases hk : K.lookup a = Option.none
  · refine main (scriptH a { cls := .type "list", data := .seq vs.toArray } ns) (fun b => ?_) (.inl (.inr ⟨_, if_pos rfl⟩)) (fun b u z => ?_) fun b z => ?_
    · by_cases q : b = a
      · exact .inr ⟨_, _, if_pos q⟩
      · exact .inl (if_neg q)
    · unfold scriptH at z
      by_cases q : b = a
      · rw [if_pos q] at z
        cases z
        subst q
        exact ⟨ha, by rw [List.length_map]; exact hl, vs, _, rv, ha⟩
      · rw [if_neg q] at z
        cases z
    · by_cases q : b = a
      · exact ⟨q, hk⟩
      · exact absurd (if_neg q) z
  · obtain ⟨o, ho⟩ : ∃ o, K.lookup a = some o := by
      cases e : K.lookup a with
      | none => exact absurd e hk
      | some o => exact ⟨o, rfl⟩
    have e := KX a o ho
    rw [ha] at e
    cases e
    refine main (fun _ => Option.none) (fun _ => .inl rfl) ?_ (fun b u z => by cases z) fun b z => absurd rfl z
    exact .inr ⟨_, vs.toArray, _, ho, rfl, rfl, rfl, by rw [List.size_toArray, hi.length]; exact hl, by simpa using rv⟩
theorem walk_law {l : PySem.W.OpenLaw} {n k : Nat} {q : Program} {loose : List Str} {XP : (Str → Option Value) → Heap → Prop} {YP : World → Heap → Prop} {d : DefRec} {K : Params → PySem.W.Frag} {sp : PySem.W.Frag → Sp} {x : Str}
    (hn : l.most = some n) (hn2 : n ≤ sizeLine) (hdf : d.params.defaults = []) (hr : Room k callerA)
    (hY : ∀ (w : World) (h : Heap), YP w h → (K w.params).In h)
    (F : ∀ (w : World) (mg : Str → Option Value) (fa : Addr) (h : Heap), (K w.params).In h → h.Ns mainGlobals mg → mg d.name = some (.ref fa) →
      ∃ fd : FuncData, (∀ (s : Shared) (u : Value), BindsTo s fd ⟨[u], []⟩ [(x, u)]) ∧
        ∀ b : Heap, (K w.params).In b → b.Ns mainGlobals mg → LawAt l.prog w (K w.params) mg b k fa fd [x] (sp (K w.params)))
    (hsp : ∀ (K : PySem.W.Frag) (H : Hp) (a : Addr) (ns : List Int), ns.length ≤ n → Only H → SqL K H a (ns.map V.int) → sp K [.ref a] H (fun v _ => v = .bl true) fun _ _ _ => False) :
    PySem.W.WalkO q loose XP YP l.row.toRowW d [] (fun f vs => PySem.call f vs) := by
  refine Att.attach_call hn hdf fun w s₀ s₁ mg mb fa o pm cd doc a vs ns G Y ho hd hcd hmg hobj hints hlen hg => ?_
  obtain ⟨fd, hb, hF⟩ := F w mg fa _ (hY w _ Y) G.T.g hmg
  exact law_goes (hY w _ Y) G.T.g G.T.b G.T.builtins G.T.nolimit hg hobj hints (Nat.le_trans hlen hn2) hr hF hb fun H hO hS => hsp _ H a ns hlen hO hS
end Cm

/-! defs that are called by name; the hand of draws -/
namespace Cm
open PySem L2 PySem.Spec PyProof.Rows
structure Cl (P : Program) (w : World) (K : PySem.W.Frag) (mg : Str → Option Value) (base : Heap) (k : Nat) (x : Str) (sp : Sp) : Prop where
  ex : ∃ (f : Addr) (fd : FuncData) (ps : List Str), FnOk P w K mg base CX0 k f fd ps sp ∧ mg x = some (.ref f) ∧ PySem.W.keepIn K (.ref f) = true ∧ Binds K fd ps []
/-- where a def of the text stands -/
structure At (K : PySem.W.Frag) (mg : Str → Option Value) (x : Str) (st : Stmt) (ps : List Str) : Prop where
  ex : ∃ (f : Addr) (fd : FuncData), Fun K x x st f fd ∧ mg x = some (.ref f) ∧ Binds K fd ps []
section
variable {P : Program} {w : World} {K : PySem.W.Frag} {mg : Str → Option Value} {base : Heap}
theorem cl_of {x : Str} {st : Stmt} {N ps : List Str} {k : Nat} {sp : Sp} (T : At K mg x st ps) (S : FnScope N ps (defScope st))
    (len : ∀ vs H Q E, sp vs H Q E → vs.length = ps.length)
    (hb : ∀ (f : Addr) (cdv : Value) (A : Around) (outer : List Env) (s : Shared) (H : Hp) (vs : List V) (Q : VK) (E : XK),
      Room k (A.deeper (envOfC x (defScope st) s.heap.objs.size f cdv)) → sp vs H Q E →
      ∃ t, PSs (cxOf CX0 P w K mg base N x (defScope st) f cdv A outer s H E).nox (defBody st) t ∧ t { nx := fun _ H' => Q .non H', rt := Q } (start N vs) H) :
    Cl P w K mg base (k + 1) x sp := by
  obtain ⟨f, fd, F, hm, b⟩ := T.ex
  exact ⟨f, fd, ps, F.ok S len (hb f), hm, F.kp, b⟩
end
section
variable {X : Cx} {j k : Nat} {x : Str} {sp : Sp} {e : Expr} {es : List Expr} {t : TA} {p pos : Pos}
theorem pe_c (c : Cl X.prog X.w X.K X.mg X.base k x sp) (hr : Room j X.A) (hk : k ≤ j) (hg : Gl X x) (ha : PA X (e :: es) t)
    (hdb : (x == ("__debug__" : Str)) = false := by decide) (he : starEach (e :: es) X.env = (false, eval e X.env) :: starEach es X.env := by rfl)
    (hpl : (backTo pos (starEach es X.env)).any (·.1) = false := by rfl) : PE X (.Call (.Name x p) (e :: es) [] pos) (tCall sp [] E0 t) := by
  obtain ⟨f, fd, ps, F, hm, kp, b⟩ := c.ex
  exact pe_call F (hr.mono hk) hg hm kp b .nil pass0 ha hdb he hpl
end

theorem map_at {α β : Type} {f : α → β} {xs : List α} {i : Nat} {y : β} (h : (xs.map f)[i]? = some y) : ∃ x, xs[i]? = some x ∧ y = f x := by
  rw [List.getElem?_map] at h
  obtain ⟨x, a, b⟩ := Option.map_eq_some_iff.mp h
  exact ⟨x, a, b.symm⟩

/-! ### a word between a statement and what follows it -/
def tMid (t u : TS) : TS := fun D σ H => ∃ M : L2.St → Hp → Prop, t { D with nx := M } σ H ∧ ∀ σ' H', M σ' H' → u D σ' H'
theorem pss_mid {X : Cx} {st : Stmt} {rest : List Stmt} {t u : TS} (h1 : PS X st t) (h2 : PSs X rest u) : PSs X (st :: rest) (tMid t u) :=
  ⟨fun pins s σ H D I h => by
    obtain ⟨M, hm, hu⟩ := h
    refine wpAny_execs_cons (thn (h1.run pins s σ H { D with nx := M } I hm) fun fl s1 q => ?_)
    cases fl with
    | next =>
      obtain ⟨σ', H', I', q⟩ := q
      exact h2.run pins s1 σ' H' D I' (hu σ' H' q)
    | ret v => exact q
    | brk => exact q
    | cont => exact q⟩

/-! ### the hand of draws -/
/-- a hand stands at h: the cells, how many were taken, a great cell that is drawn from, a sum -/
def Hand (H : Hp) (h c : Addr) : Prop := ∃ (cells : List Int) (i b t : Int), H h = some (.lst [.ref c, .int i, .int b, .int t]) ∧ H c = some (.lst (cells.map V.int)) ∧ c ≠ h ∧ 0 ≤ i ∧ cells.length ≤ 63
theorem Hand.lst {H : Hp} {h c : Addr} (x : Hand H h c) : ∃ xs, H h = some (.lst xs) := let ⟨_, _, _, _, e, _⟩ := x; ⟨_, e⟩
theorem Hand.same {H H' : Hp} {h c : Addr} (x : Hand H h c) (s : Same H H') : Hand H' h c := by
  obtain ⟨cells, i, b, t, e1, e2, n, z⟩ := x
  exact ⟨cells, i, b, t, s _ _ e1, s _ _ e2, n, z⟩
/-- the hand alone is changed -/
abbrev Kh (h : Addr) : Hp → Hp → Prop := Kp (fun a => a = h)
theorem Hand.kh {H H' : Hp} {h c : Addr} (x : Hand H h c) (s : Same H H') : Kh h H H' := .of_same (fun a m => by subst m; exact x.lst) s
theorem Hand.kr {H : Hp} {h c : Addr} (x : Hand H h c) : Kh h H H := x.kh (Same.refl H)

def spMix : Sp := fun vs H Q _ => ∃ a b : Int, vs = [.int a, .int b] ∧ ∀ n : Int, Q (.int n) H
def spHand (K : PySem.W.Frag) : Sp := fun vs H Q _ => ∃ (a : Addr) (ns : List Int), vs = [.ref a] ∧ SqL K H a (ns.map V.int) ∧ ns.length ≤ 63 ∧ ∀ h c H', Same H H' → H h = Option.none → H c = Option.none → Hand H' h c → Q (.ref h) H'
def spDraw : Sp := fun vs H Q _ => ∃ (h c : Addr) (m : Int), vs = [.ref h, .int m] ∧ Hand H h c ∧ 0 < m ∧ m < 2 ^ 100 ∧ ∀ (n : Int) (H' : Hp), 0 ≤ n → n < m → Kh h H H' → Hand H' h c → Q (.int n) H'
/-- pick out of a list or tuple -/
def spPick (K : PySem.W.Frag) : Sp := fun vs H Q _ => ∃ (h c a : Addr) (xs : List V), vs = [.ref h, .ref a] ∧ Hand H h c ∧ (SqL K H a xs ∧ a ≠ h ∨ SqT K H a xs) ∧ xs ≠ [] ∧ xs.length ≤ 1000 ∧
  ∀ (v : V) (H' : Hp), v ∈ xs → Kh h H H' → Hand H' h c → Q v H'
end Cm

/-! further rules: a tuple read backwards, enumerate over a tuple, sorted(d.keys()) -/
namespace Cm
open PySem L2 PySem.Spec PyProof.Rows
section
variable {prog : Program} {w : World} {A : Around} {E : Value → Shared → Prop} {s : Shared}
theorem adjust_back (n : Nat) : Builtin.Slice.sliceAdjust none none (-1) (n : Int) = ((n : Int) - 1, -1) := by
  unfold Builtin.Slice.sliceAdjust
  simp
theorem places_back (n : Nat) : Builtin.Slice.slicePlaces ((n : Int) - 1) (-1) (-1) = n := by
  unfold Builtin.Slice.slicePlaces
  simp
  try omega
theorem applied_back {sl : Addr} {vs : Value} {n : Nat} {Q : Int × Int × Nat → Shared → Prop} (hs : s.heap.IsSliceOf sl .none .none vs) (ps : IsPart vs (some (-1)))
    (h : Q ((n : Int) - 1, -1, n) s) : wpAny (model prog w) A (Builtin.Slice.sliceApplied (.ref sl) (pure (n : Int))) Q E s := by
  obtain ⟨os, hos, hcs, hds⟩ := id hs
  unfold Builtin.Slice.sliceApplied Builtin.Slice.sliceFields
  refine wpAny_bind (wpAny_bind (wpAny_field hos hds (x := .none) rfl (wpAny_bind (wpAny_field hos hds (x := .none) rfl (wpAny_bind (wpAny_field hos hds (x := vs) rfl (wpAny_pure ?_)))))))
  refine wpAny_bind (HT.slicePart_ ps ?_)
  show wpAny _ _ (if ((-1 : Int) == 0) = true then _ else _) _ _ s
  rw [if_neg (by decide)]
  refine wpAny_bind (slicePart_none (wpAny_bind (slicePart_none (wpAny_bind (wpAny_pure ?_)))))
  show wpAny _ _ (match Builtin.Slice.sliceAdjust none none (-1) (n : Int) with | (lo, hi) => pure (lo, (-1 : Int), Builtin.Slice.slicePlaces lo hi (-1))) _ _ s
  rw [adjust_back]
  show wpAny _ _ (pure ((n : Int) - 1, (-1 : Int), Builtin.Slice.slicePlaces ((n : Int) - 1) (-1) (-1))) _ _ s
  rw [places_back]
  exact wpAny_pure h
theorem filterMap_eqs {α β : Type} {f g : α → Option β} : ∀ l : List α, (∀ x ∈ l, f x = g x) → l.filterMap f = l.filterMap g
  | [], _ => rfl
  | x :: l, h => by
    rw [List.filterMap_cons, List.filterMap_cons, h x List.mem_cons_self, filterMap_eqs l fun y hy => h y (List.mem_cons_of_mem _ hy)]
theorem pick_all (m : List Value) : (List.range m.length).filterMap (fun k => m[k]?) = m := by
  induction m with
  | nil => rfl
  | cons a m ih =>
    rw [List.length_cons, List.range_succ_eq_map, List.filterMap_cons]
    simp only [List.getElem?_cons_zero, List.filterMap_map]
    refine congrArg _ (Eq.trans (filterMap_eqs _ fun k _ => ?_) ih)
    simp
theorem pick_back (xs : Array Value) : ((List.range xs.size).filterMap fun (k : Nat) => xs[((xs.size : Int) - 1 + (k : Int) * -1).toNat]?).toArray = xs.toList.reverse.toArray := by
  have h1 : (List.range xs.size).filterMap (fun (k : Nat) => xs[((xs.size : Int) - 1 + (k : Int) * -1).toNat]?) = (List.range xs.size).filterMap (fun k => xs.toList.reverse[k]?) := by
    refine filterMap_eqs _ fun k hk => ?_
    have hk' : k < xs.size := List.mem_range.mp hk
    have e2 : ((xs.size : Int) - 1 + (k : Int) * -1).toNat = xs.size - 1 - k := by omega
    rw [e2, List.getElem?_reverse (by simpa using hk'), Array.getElem?_toList]
    simp
  have h3 := pick_all xs.toList.reverse
  rw [List.length_reverse, Array.length_toList] at h3
  rw [h1, h3]
theorem getItem_tuple_back {t sl : Addr} {items : Array Value} {vs : Value} {Q : Value → Shared → Prop} (ht : IsTup s.heap t items) (hs : s.heap.IsSliceOf sl .none .none vs) (ps : IsPart vs (some (-1)))
    (h : Q (.ref s.heap.objs.size) { s with heap := s.heap.push { cls := .type "tuple", data := .seq items.toList.reverse.toArray } })
    (hsz : items.size ≤ sizeLine) : wpAny (model prog w) A (getItem (.ref t) (.ref sl)) Q E s := by
  have hok : sizeOk (.seq items.toList.reverse.toArray) := by
    show items.toList.reverse.toArray.size ≤ sizeLine
    rw [List.size_toArray, List.length_reverse, Array.length_toList]
    exact hsz
  obtain ⟨os, hos, hcs, hds⟩ := id hs
  have hTs : s.TypeIs (.ref sl) "slice" := ⟨os, hos, hcs⟩
  unfold getItem
  try with_reducible refine wpAny_holding ?_
  first | refine wpAny_bind (wpAny_pure ?_) | skip
  refine wpAny_bind (wpAny_sequenceKey ht.typeIs (by decide) ?_)
  refine wpAny_bind (wpAny_callSpecial?_slot (name := Str.ofString "__getitem__") ht.typeIs slot_tuple_getitem (wpAny_call_entry slot_tuple_getitem ht.typeIs PyProof.Rows.entry_tuple_getitem ?_ (PyProof.Rows.args_tuple_getitem _ _)))
  show wpAny _ _ (Builtin.Tuple.tupleItemsOf (.ref t) >>= _) _ _ s
  refine wpAny_bind (tupleItemsOf_ ht (wpAny_bind (wpAny_typeOf hTs ?_)))
  rw [if_pos (by decide)]
  refine wpAny_bind (applied_back (n := items.size) hs ps ?_)
  show wpAny _ _ (if ((((items.size : Int) - 1) == 0 && (-1 : Int) == 1 && items.size == items.size) = true) then _ else _) _ _ s
  rw [if_neg (by simp), pick_back]
  first
    | exact wpAny_bind (m := Builtin.Tuple.tupleExact _) (wpAny_newObj_type (wpAny_pure ⟨_, rfl, wpAny_pure h⟩) hok)
    | exact wpAny_bind (m := Builtin.Tuple.tupleExact _) (wpAny_newObj_type (wpAny_bind (wpAny_pure (wpAny_pure ⟨_, rfl, wpAny_pure h⟩))) hok)
end
section
variable {X : Cx}
def tRevT (K : PySem.W.Frag) (te : TE) : TE := fun σ H Q => te σ H fun x H1 => ∃ a xs, x = .ref a ∧ SqT K H1 a xs ∧ ∀ p, H1 p = Option.none → Q (.ref p) (upd H1 p (.tup xs.reverse))
theorem pe_revT {e : Expr} {te : TE} {k : Nat} {p1 p2 p3 pos : Pos} (he : PE X e te) : PE X (.Subscript e (.Slice none none (some (.UnaryOp .USub (.Constant (.int 1) k p1) p2)) p3) pos) (tRevT X.K te) := by
  refine ⟨fun pins s σ H Q I h => ?_⟩
  refine Subscript_ (thn (he.run pins s σ H _ I h) fun v s1 hz => ?_)
  obtain ⟨x, H1, I1, r1, a, xs, ex, hx, q⟩ := hz
  subst ex
  cases r1
  have hst : PO X (some (.UnaryOp .USub (.Constant (.int 1) k p1) p2)) (tPart (tUn (rU fun i => .int (-i)) (tC (.int 1)))) := po_some (pe_un un_neg pe_int)
  refine wpAny_Slice (thn (po_none.run pins s1 σ H1 (fun o H2 => o = none ∧ H2 = H1) I1 ⟨rfl, rfl⟩) fun vl s2 hz => ?_)
  obtain ⟨l, H2, I2, pl, el, e2⟩ := hz
  subst el e2
  refine thn (po_none.run pins s2 σ H2 (fun o H3 => o = none ∧ H3 = H2) I2 ⟨rfl, rfl⟩) fun vu s3 hz => ?_
  obtain ⟨u, H3, I3, pu, eu, e3⟩ := hz
  subst eu e3
  refine thn (hst.run pins s3 σ H3 (fun o H4 => o = some (-1) ∧ H4 = H3) I3 ⟨1, rfl, -1, rfl, rfl, rfl⟩) fun vs s4 hz => ?_
  obtain ⟨o, H4, I4, ps, eo, e4⟩ := hz
  subst eo e4
  cases pl
  cases pu
  have I5 : Inv X pins σ H4 { s4 with heap := s4.heap.push { cls := .type "slice", data := .fields #[.none, .none, vs] } } := I4.kept (t' := s4.toks) fun b ob q => Heap.get?_push_of_some _ q
  obtain ⟨its, r, ht, hz⟩ := I5.tuple hx
  have hlen := r.length
  show wpAny (model X.prog X.w) X.A (subscriptTail e (.Slice none none (some (.UnaryOp .USub (.Constant (.int 1) k p1) p2)) p3) (.ref a) (.ref s4.heap.objs.size)) (EP X pins σ Q) X.xe
    { s4 with heap := s4.heap.push { cls := .type "slice", data := .fields #[.none, .none, vs] } }
  refine tail_any (ops := [.ref a, .ref s4.heap.objs.size]) ht.typeIs slot_tuple_getitem.lookup ?_ (by with_unfolding_all rfl)
  refine getItem_tuple_back ht (Heap.IsSliceOf.new _ .none .none vs) ps ?_ (by rw [List.size_toArray]; omega)
  refine ⟨.ref _, _, I5.laid (t' := s4.toks) (o := .tup xs.reverse) (fun b ob q => Heap.get?_push_of_some _ q) (Nat.le_refl _) ?_, rfl, q _ (I5.hok.fresh (Nat.le_refl _))⟩
  exact ⟨by rw [List.length_reverse]; exact hz, its.reverse, r.reverse, IsTup.new _ _⟩
end

/-! ### enumerate over a tuple -/
theorem enum_new1 {v : Value} {o : Obj} {G : Heap → Prop} (B : Begins v o G) :
    Meets (Builtin.«enumerate.__new__» ⟨[.type "enumerate", v], []⟩) (fun _ R s => G s.heap ∧
      R (.ok (.ret (.ref (s.heap.push o).objs.size))) { s with heap := (s.heap.push o).push { cls := .type "enumerate", data := .fields #[.none, .bool false, .ref s.heap.objs.size, rawInt 0, .none, .none] } }) :=
  .of_wp fun prog w A R s h => by
    obtain ⟨hp, g, d, tk, os⟩ := s
    obtain ⟨h1, h2⟩ := h
    have hsub := sub_enumerate
    have it : ∀ {A' : Around} {E : Value → Shared → Prop} {Q : Value → Shared → Prop}, Q (.ref hp.objs.size) ⟨hp.push o, g, d, tk, os⟩ → wpAny (model prog w) A' (pyIter v) Q E ⟨hp, g, d, tk, os⟩ :=
      fun q => B.iter prog w _ _ ⟨hp, g, d, tk, os⟩ _ h1 q
    wp_walk using it
    refine wpAny_stack_any fun st => wpAny_pure ?_
    split
    · rename_i c _ _ _ _ _
      cases (c == Value.type "enumerate") <;> (wp_walk using it; exact ⟨_, rfl, h2⟩)
    · wp_walk using it
      exact ⟨_, rfl, h2⟩
section
variable {prog : Program} {w : World} {A : Around} {E : Value → Shared → Prop} {s : Shared}
theorem call_enum1 {v : Value} {o : Obj} {G : Heap → Prop} {Q : Value → Shared → Prop} (B : Begins v o G) (h1 : G s.heap)
    (h : ∀ h', IsEnum h' (s.heap.objs.size + 1) s.heap.objs.size 0 .none → h'.get? s.heap.objs.size = some o → h'.objs.size = s.heap.objs.size + 2 →
      (∀ b o, s.heap.get? b = some o → h'.get? b = some o) → Q (.ref (s.heap.objs.size + 1)) { s with heap := h' }) :
    wpAny (model prog w) A (call (.type "enumerate") [v]) Q E s := by
  refine callType_new F.called_enumerate (by decide) (F.typeCall_enumerate_1 _) (F.newCall_enumerate_1 _) (fun obj => F.args_object_init_2 obj _) F.entry_enumerate_new (enum_new1 B) ⟨h1, ?_⟩
  have hz : (s.heap.push o).objs.size = s.heap.objs.size + 1 := Heap.size_push ..
  rw [hz]
  have he : IsEnum ((s.heap.push o).push { cls := .type "enumerate", data := .fields #[.none, .bool false, .ref s.heap.objs.size, rawInt 0, .none, .none] }) (s.heap.objs.size + 1) s.heap.objs.size 0 .none := by
    have e := Heap.get?_push_size (s.heap.push o) (o := { cls := .type "enumerate", data := .fields #[.none, .bool false, .ref s.heap.objs.size, rawInt 0, .none, .none] }) rfl
    rw [hz] at e
    exact e
  exact ⟨⟨_, he, rfl⟩, h _ he (Heap.get?_push_of_some _ (Heap.get?_push_size _ B.free)) (by rw [Heap.size_push, hz]) fun b o x => Heap.get?_push_of_some _ (Heap.get?_push_of_some _ x)⟩
end
/-- the tuple at a, each item in a new pair with its number -/
def IteT (K : PySem.W.Frag) (a : Addr) : It :=
  ⟨fun i H => ∃ (xs : List V) (x : V), SqT K H a xs ∧ xs[i]? = some x, fun i H v H' => ∃ T x, v = .ref T ∧ H T = Option.none ∧ H' = upd H T (.tup [.int (i : Nat), x]) ∧ ∀ xs, SqT K H a xs → xs[i]? = some x,
    fun i H => ∃ xs : List V, SqT K H a xs ∧ xs.length ≤ i⟩
theorem turn_enumT {P : Program} {w : World} {K : PySem.W.Frag} {elts : List Expr} {kk : Nat} {tpos : Pos} (a e it : Addr) :
    Turn P w K (.Tuple elts kk tpos) (IteT K a) [e, it] e (fun i h => (∃ old, IsEnum h e it ((i : Nat) : Int) old) ∧ h.IsTupleIter it a i ∧ e ≠ it ∧ a ≠ it ∧ a ≠ e) where
  mem := by simp
  obj := fun i h st b hb => by
    obtain ⟨⟨old, he⟩, ⟨o, ho, hc, hd⟩, _⟩ := st
    rcases (show b = e ∨ b = it by simpa using hb) with z | z
    · rw [z]; exact ⟨_, he, fun v q => nomatch q⟩
    · rw [z]; exact ⟨o, ho, fun v q => by rw [hd] at q; cases q⟩
  keep := fun i h h' st k => let ⟨⟨old, he⟩, hi, hne⟩ := st; ⟨⟨old, k e (by simp) _ he⟩, hi.at fun o q => k it (by simp) o q, hne⟩
  item := by
    intro X hP hw hK hc i pins s σ H E I hf st hg
    subst hP hw hK
    obtain ⟨⟨old, he⟩, hit, hne, hai, hae⟩ := st
    obtain ⟨xs, x, hq, hx⟩ := hg
    obtain ⟨its, rv, p, hz⟩ := I.tuple hq
    obtain ⟨u, hu, ru⟩ := rv.get hx
    have hel : e < s.heap.objs.size := Heap.lt_size he
    have hil : it < s.heap.objs.size := by obtain ⟨_, q, _⟩ := hit; exact Heap.lt_size q
    have hlt : i < its.toArray.size := by
      rw [List.size_toArray]
      exact (List.getElem?_eq_some_iff.mp hu).1
    refine wpAny_pyNext_enum_itemD (Draws.tuple (prog := X.prog) (w := X.w) (A := X.A.in1) (I.ok.hd hc) it a hai its.toArray) he ⟨hit, p⟩ hlt hne (by simp [hne, Ne.symm hae]) fun y h' tk hy ho hst hT hsz hk => ?_
    have ey : y = u := by
      have q : its[i]? = some y := by simpa using hy
      rw [hu] at q
      exact (Option.some.inj q).symm
    subst ey
    refine ⟨_, rfl, wpAny_letOwnedTupleGo_enum (s := { s with heap := h', toks := tk + 1 }) ho fun h'' he' sb => ?_⟩
    have hT2 : h''.get? s.heap.objs.size = some { cls := .type "tuple", data := .seq #[.int i tk, y] } := (sb.2 _ (Nat.ne_of_gt hel)).trans hT
    have new : ObjOk X.prog X.w (upd H s.heap.objs.size (.tup [.int (i : Nat), x])) h'' s.heap.objs.size (.tup [.int (i : Nat), x]) :=
      ⟨by show 2 ≤ sizeLine; decide, [.int i tk, y], .cons ⟨_, rfl⟩ (.cons ru .nil), ⟨_, hT2, rfl, _, rfl⟩⟩
    have I1 : Inv X pins σ (upd H s.heap.objs.size (.tup [.int (i : Nat), x])) { s with heap := h'', toks := tk + 1 } :=
      I.turnedNew (ch := [e, it]) (fun b ob hb q => (sb.2 b (fun z => hb (by simp [z]))).trans (hk b ob (fun z => hb (by simp [z])) (fun z => hb (by simp [z])) q)) hf (Nat.le_refl _) new
    refine ⟨.ref s.heap.objs.size, _, I1, rfl, ⟨_, x, rfl, I.hok.fresh (Nat.le_refl _), rfl, fun ys hy => by rw [I.tuple_inj hy hq]; exact hx⟩, ⟨⟨y, ?_⟩, hst.1.at fun o q => (sb.2 it (Ne.symm hne)).trans q, hne, hai, hae⟩, fun b hb => ?_⟩
    · have e1 : ((i + 1 : Nat) : Int) = (i : Int) + 1 := by omega
      rw [e1]; exact he'
    · have hb' : b < s.heap.objs.size := by
        rcases (show b = e ∨ b = it by simpa using hb) with z | z
        · rw [z]; exact hel
        · rw [z]; exact hil
      rw [upd_ne (Nat.ne_of_lt hb')]
      exact (hf b hb).1
  done := by
    intro X hP hw hK hc i pins s σ H E I hf st hg
    subst hP hw hK
    obtain ⟨⟨old, he⟩, hit, hne, hai, hae⟩ := st
    obtain ⟨xs, hq, hx⟩ := hg
    obtain ⟨its, rv, p, hz⟩ := I.tuple hq
    obtain ⟨f0, f1, f2, f3, f4, f5⟩ := hf it (by simp)
    have hl := rv.length
    have D : Draws X.prog X.w X.A.in1 it [it, a] i (fun _ _ => False) (fun j h => j = i ∧ h.IsTupleIter it a i ∧ h.IsTuple a its.toArray) :=
      { live := fun _ _ st => let ⟨o, ho, _⟩ := st.2.1; ⟨o, ho⟩
        frame := fun _ _ _ st hk => ⟨st.1, st.2.1.at fun o e => hk it (by simp) o e, st.2.2.at fun o e => hk a (by simp) o e⟩
        item := fun j s Q E hj st => absurd hj (by rw [st.1]; exact Nat.lt_irrefl _)
        done := fun s Q E st hE => wpAny_nextOf_tuple_end (I.ok.hd hc) st.2.1 st.2.2 (by simp; omega) hE }
    exact wpAny_pyNext_enum_endD D he ⟨rfl, hit, p⟩ fun h' eb => ⟨rfl, I.turned (t' := s.toks) (fun b o hb q => eb b o hb q) f0 f1 f3 f4 f5⟩
  self := fun A i s Q E st h => let ⟨⟨_, he⟩, _⟩ := st; wpAny_pyIter_enum he h
def iEnumT (K : PySem.W.Frag) (ta : TA) : TI := fun σ H R => ta σ H fun vs H1 => ∃ a xs, vs = [.ref a] ∧ SqT K H1 a xs ∧ R (IteT K a) H1
theorem pi_enumT {X : Cx} {e : Expr} {ta : TA} {p pos tpos : Pos} {elts : List Expr} {kk : Nat} (hg : Gl X "enumerate") (hm : X.mg "enumerate" = none) (ha : PA X [e] ta) (hs : starEach [e] X.env = [(false, eval e X.env)] := by rfl) :
    PI X (.Tuple elts kk tpos) (.Call (.Name "enumerate" p) [e] [] pos) (iEnumT X.K ta) := by
  refine ⟨fun pins s σ H R I h => ?_⟩
  refine Call_ (ld_blt I hg hm boot_enumerate (PyProof.Rows.callWith_type1 (thn (ha.run pos pins s σ H _ I h) fun us s1 hz => ?_) hs rfl))
  obtain ⟨vs, H1, I1, r1, a, xs, ex, hq, q⟩ := hz
  subst ex
  cases r1 with
  | cons r rr =>
    cases rr
    cases r
    obtain ⟨its, rv, p', hz⟩ := I1.tuple hq
    refine call_enum1 (begins_tuple a its.toArray) p' fun h' he hit hsz hk => wpAny_pyIter_enum he ?_
    have hal : a < s1.heap.objs.size := p'.lt
    refine ⟨s1.heap.objs.size + 1, [s1.heap.objs.size + 1, s1.heap.objs.size], _, _, H1, rfl, I1.kept (t' := s1.toks) hk, turn_enumT a (s1.heap.objs.size + 1) s1.heap.objs.size,
      ⟨⟨.none, he⟩, ⟨_, hit, rfl, rfl⟩, Nat.succ_ne_self _, Nat.ne_of_lt hal, Nat.ne_of_lt (Nat.lt_succ_of_lt hal)⟩, fun b hb => ?_, q⟩
    have hle : s1.heap.objs.size ≤ b := by
      rcases (show b = s1.heap.objs.size + 1 ∨ b = s1.heap.objs.size by simpa using hb) with z | z
      · rw [z]; exact Nat.le_add_right _ _
      · rw [z]; exact Nat.le_refl _
    exact I1.fpOk hle (I1.hok.fresh hle)
theorem walk_enumT {K : PySem.W.Frag} {a : Addr} {xs : List V} : Walk (IteT K a) xs.length (fun H => SqT K H a xs) (YPair (fun i => some (.int (i : Nat))) (fun i => xs[i]?)) := by
  refine ⟨fun i _ hi q => ⟨xs, xs[i], q, by simp [hi]⟩, fun _ q => ⟨xs, q, Nat.le_refl _⟩, fun i H v H' _ q y => ?_⟩
  obtain ⟨T, x, h1, h2, h3, h4⟩ := y
  exact ⟨T, .int (i : Nat), x, h1, h2, h3, rfl, h4 xs q⟩
theorem walk_zipT {K : PySem.W.Frag} {a b : Addr} {xs ys : List V} {n : Nat} (hn : n = min xs.length ys.length) : Walk (RZ.ItzT K a b) n (fun H => SqT K H a xs ∧ SqT K H b ys) (YPair (fun i => xs[i]?) (fun i => ys[i]?)) := by
  subst hn
  refine ⟨fun i _ hi q => ?_, fun _ q => ⟨xs, ys, q.1, q.2, by omega⟩, fun i H v H' _ q y => ?_⟩
  · have h1 : i < xs.length := by omega
    have h2 : i < ys.length := by omega
    exact ⟨xs, ys, xs[i], ys[i], q.1, q.2, by simp [h1], by simp [h2]⟩
  · obtain ⟨T, x, z, h1, h2, h3, h4, h5⟩ := y
    exact ⟨T, x, z, h1, h2, h3, h4 xs q.1, h5 ys q.2⟩

/-! ### sorted(d.keys()) of a dict of int keys -/
section
variable {X : Cx}
/-- the view r of the keys of the dict at d -/
def ViewO (r d : Addr) : HO := .ext fun h => PySem.W.KdlKeysView h r d
def tKeys (td : TE) : TE := fun σ H Q => td σ H fun x H1 => ∃ d, x = .ref d ∧ (∃ kvs, H1 d = some (.dK kvs)) ∧ ∀ r, H1 r = Option.none → Q (.ref r) (upd H1 r (ViewO r d))
theorem pe_keys {e : Expr} {td : TE} {apos cpos : Pos} (he : PE X e td) (hbase : attributeBase e "keys" X.env (eval e X.env) = eval e X.env := by rfl) (hline : (apos.endLine == cpos.line) = true := by rfl) :
    PE X (.Call (.Attribute e "keys" apos) [] [] cpos) (tKeys td) := by
  refine ⟨fun pins s σ H Q I h => ?_⟩
  refine wpAny_Call_method (T := "dict") (id := "dict.keys") hbase rfl hline F.plainAttrs_dict F.slot_dict_keys F.type_dict_keys (thn (he.run pins s σ H _ I h) fun u s1 hz => ?_)
  obtain ⟨x, H1, I1, rx, d, ex, ⟨kvs, hd⟩, q⟩ := hz
  subst ex
  obtain rfl : u = Value.ref d := rx
  obtain ⟨z, lo, vs, rel, dd⟩ := dk_of I1.hok hd
  refine ⟨dd.typeIs, dd.mapOf.noDict, ?_⟩
  show wpAny _ _ (callWith cpos (.builtin "dict.keys") [.ref d] [] []) _ X.xe s1
  have fin : EP X pins σ Q (.ref s1.heap.objs.size) { s1 with heap := s1.heap.push { cls := .type "dict_keys", data := .fields #[.ref d] } } := by
    refine ⟨.ref s1.heap.objs.size, upd H1 s1.heap.objs.size (ViewO s1.heap.objs.size d), I1.laid (t' := s1.toks) (fun b u e => Heap.get?_push_of_some _ e) (Nat.le_refl _) ?_, rfl, q _ (I1.hok.fresh (Nat.le_refl _))⟩
    refine ⟨⟨_, Heap.get?_push_size _ rfl, rfl, rfl⟩, ⟨_, Heap.get?_push_size _ rfl⟩, fun h1 h2 a b => ?_⟩
    obtain ⟨o, ho, c⟩ := a
    exact ⟨o, b o ho, c⟩
  exact method_meetsIn F.slot_dict_keys F.entry_dict_keys rfl (PySem.evalArgs_none ⟨rfl, dd.typeIs, F.args_dict_keys_1 _, _, PySem.W.kdl_meets_keys (mixKind X.prog X.w) d lo, ⟨vs, dd⟩, fin⟩)
theorem call_sortedK (hcalm : X.calm = true) : CallR X (.builtin "sorted") (fun xs H Q => ∃ (r d : Addr) (kvs : List (Key × V)) (ks : List Int), xs = [.ref r] ∧ H r = some (ViewO r d) ∧ H d = some (.dK kvs) ∧ kvs.map (·.1) = ks.map Sum.inl ∧ ks.length < 64 ∧
    ∀ (ys : List Int) (p : Addr), ys.Perm ks → ys.Pairwise (· ≤ ·) → H p = Option.none → Q (.ref p) (upd H p (.lst (ys.map V.int)))) := by
  intro pins s σ H xs us Q I rr q
  obtain ⟨r, d, kvs, ks, ex, hr, hd, hks, h64, q⟩ := q
  subst ex
  obtain ⟨u, eu, rx⟩ := vals1 rr
  subst eu
  cases rx
  have hv : PySem.W.KdlKeysView s.heap r d := (I.hok r _ hr).1
  obtain ⟨z, lo, vs, rel, dd⟩ := dk_of I.hok hd
  obtain ⟨ep, hat⟩ := dd.dictAt
  have hkeys : vs.map (·.1) = ks.map Sum.inl := rel.keys.symm.trans hks
  have hl : vs.length = ks.length := by simpa using congrArg List.length hkeys
  have h16 : vs.length ≤ sizeLine := by rw [hl, sizeLine_eq]; omega
  refine Calls.call_function_entry PyProof.Rows.kind_sorted PyProof.Rows.plain_sorted PyProof.Rows.entry_sorted (PyProof.Rows.args_sorted1 _) ?_
  unfold Builtin.«sorted»
  refine wpAny_bind (m := checkCount "sorted" 1 1 _) (wpAny_pure ?_)
  refine wpAny_bind (PySem.W.kdu_collect (A := X.A.in1) (PySem.W.kdl_keys (knd := mixKind X.prog X.w) (r := r) (d := d) (kvs := vs) (ep := ep)) (I.ok.hd hcalm) ⟨hv, hat⟩ h16 fun h' tk acc hk hacc => ?_)
  have hal : acc.toList.length = ks.length := by rw [Array.length_toList, hacc.1, hl]
  have hS : IntsAre acc.toList ks := ints_each hal fun j v e => by
    obtain ⟨k, x, e1, e2⟩ := hacc.2 j v (by rw [← Array.getElem?_toList]; exact e)
    have e3 : (vs.map (·.1))[j]? = some k := by rw [List.getElem?_map, e1]; rfl
    rw [hkeys, List.getElem?_map] at e3
    obtain ⟨y, ey, e4⟩ := Option.map_eq_some_iff.mp e3
    subst e4
    rcases keyIs_shape (show keyIs (Sum.inl y) v = true from e2) with ⟨i, t, ek, ev⟩ | ⟨_, t, ek, ev⟩
    · cases ek
      exact ⟨y, t, ey, ev⟩
    · cases ek
  have I1 : Inv X pins σ H { s with heap := h', toks := tk } := I.kept hk
  refine wpAny_bind (wpAny_newList ?_ (by rw [hal, sizeLine_eq]; omega))
  have hoL : (h'.push (seqObj "list" acc.toList.toArray 0)).get? h'.objs.size = some (seqObj "list" acc.toList.toArray 0) := Heap.get?_push_size _ rfl
  show wpAny _ _ _ _ _ { s with heap := h'.push (seqObj "list" acc.toList.toArray 0), toks := tk }
  refine wpAny_bind (wpAny_holding (wpAny_call_entry PyProof.Rows.slot_list_sort ⟨_, hoL, rfl⟩ PyProof.Rows.entry_list_sort
    (PyProof.Rows.list_sort_tree (s := { s with heap := h'.push (seqObj "list" acc.toList.toArray 0), toks := tk }) hoL hS (by rw [hal]; exact h64) fun out ys g1 g2 g3 => ⟨_, rfl, ?_⟩) (PyProof.Rows.args_list_sort _)))
  obtain ⟨e', he'⟩ := PyProof.Rows.sortedHeap_at (vs := acc.toList) (out := out) hoL
  have hlen : (ys.map V.int).length ≤ sizeLine := by
    rw [List.length_map, g2.length_eq]
    exact Nat.le_trans (Nat.le_of_lt h64) (by decide)
  refine wpAny_pure ⟨_, rfl, .ref h'.objs.size, upd H h'.objs.size (.lst (ys.map V.int)), I1.laid (t' := tk) (fun b u e => ?_) (Nat.le_refl _)
    (show ObjOk X.prog X.w _ _ _ (.lst (ys.map V.int)) from ⟨hlen, out.toList, e', vals_of_ints g1, by rw [Array.toArray_toList]; exact he'⟩), rfl, q ys _ g2 g3 (I1.hok.fresh (Nat.le_refl _))⟩
  have hb : b < h'.objs.size := Heap.lt_size e
  rw [PyProof.Rows.sortedHeap_old (Nat.ne_of_lt hb) (by rw [size_push']; exact Nat.lt_succ_of_lt hb)]
  exact Heap.get?_push_of_some _ e
end
end Cm

/-! a dict of things by births -/
namespace Cm
open PySem L2
/-- a thing: a word, then data without lists -/
def windD (b : Int) : PyData := .tuple [.str "wind", .int (1000 + b), .int (2000 + b)]
def wordD : PyData → Str
  | .tuple (.str x :: _) => x
  | _ => ""
structure Th (b : Int) (d : PyData) : Prop where
  ex : ∃ (wd : Str) (r : List PyData), d = .tuple (.str wd :: r)
  fl : flatD d = true
  ok : okD d = true
  dp : d.depth ≤ 8
  wt : d.weight ≤ 4000
  wn : wordD d = "wind" → d = windD b
/-- the dict at d holds es -/
structure ThAt (K : PySem.W.Frag) (H : Hp) (d : Addr) (es : List (Int × PyData)) (kvs : List (Key × V)) : Prop where
  at_ : H d = some (.dK kvs)
  ks : kvs.map (·.1) = es.map (fun e => Sum.inl e.1)
  vs : DpAll K H (kvs.map (·.2)) (es.map (·.2))
  th : ∀ e ∈ es, Th e.1 e.2
def thg (es : List (Int × PyData)) (b : Int) : PyData := ((es.find? fun e => decide (e.1 = b)).map (·.2)).getD .none
def word (es : List (Int × PyData)) (b : Int) : Str := wordD (thg es b)
theorem th_find {K : PySem.W.Frag} {H : Hp} (b : Int) : ∀ (es : List (Int × PyData)) (kvs : List (Key × V)), kvs.map (·.1) = es.map (fun e => (Sum.inl e.1 : Key)) → DpAll K H (kvs.map (·.2)) (es.map (·.2)) →
    b ∈ es.map (·.1) → ∃ v, valV kvs (Sum.inl b) = some v ∧ Dp K H v (thg es b) ∧ (b, thg es b) ∈ es
  | [], _, _, _, m => by simp at m
  | e :: es, kvs, hk, hv, m => by
    cases kvs with
    | nil => simp at hk
    | cons a kvs =>
      simp only [List.map_cons, List.cons.injEq] at hk
      cases hv with
      | cons h1 h2 =>
        by_cases q : e.1 = b
        · refine ⟨a.2, ?_, ?_, ?_⟩
          · unfold valV
            rw [List.find?_cons_of_pos (by rw [hk.1, q]; simp)]
            rfl
          · have : thg (e :: es) b = e.2 := by
              unfold thg
              rw [List.find?_cons_of_pos (by simp [q])]
              rfl
            rw [this]
            exact h1
          · have : thg (e :: es) b = e.2 := by
              unfold thg
              rw [List.find?_cons_of_pos (by simp [q])]
              rfl
            rw [this, ← q]
            exact List.mem_cons_self
        · have m' : b ∈ es.map (·.1) := by
            simp only [List.map_cons, List.mem_cons] at m
            rcases m with m | m
            · exact absurd m.symm q
            · exact m
          obtain ⟨v, g1, g2, g3⟩ := th_find b es kvs hk.2 h2 m'
          have e2 : thg (e :: es) b = thg es b := by
            unfold thg
            rw [List.find?_cons_of_neg (by simpa using q)]
          refine ⟨v, ?_, by rw [e2]; exact g2, by rw [e2]; exact List.mem_cons_of_mem _ g3⟩
          unfold valV at g1 ⊢
          rw [List.find?_cons_of_neg (by rw [hk.1]; simpa using q)]
          exact g1
theorem ThAt.get {K : PySem.W.Frag} {H : Hp} {d : Addr} {es : List (Int × PyData)} {kvs : List (Key × V)} (x : ThAt K H d es kvs) {b : Int} (m : b ∈ es.map (·.1)) :
    ∃ (p : Addr) (its : List V), DGet H d (.int b) (some (.ref p)) ∧ SqT K H p its ∧ atI its 0 = some (.str (word es b)) ∧ Dp K H (.ref p) (thg es b) ∧ Th b (thg es b) := by
  obtain ⟨v, h1, h2, h3⟩ := th_find b es kvs x.ks x.vs m
  have t : Th b (thg es b) := x.th _ h3
  obtain ⟨wd, r, ed⟩ := t.ex
  have h2' := h2
  have e3 : word es b = wd := by
    unfold word
    rw [ed]
    rfl
  rw [ed] at h2'
  cases h2' with
  | @tup a its ds hs ha =>
    refine ⟨a, its, ?_, hs, ?_, by rw [ed]; exact .tup hs ha, t⟩
    · have q := DGet.k (k := Sum.inl b) x.at_
      rw [h1] at q
      exact q
    · rw [e3]
      cases ha with
      | cons q1 q2 =>
        cases q1
        exact atI_nat (j := 0) rfl
theorem putK_end {kvs : List (Key × V)} {k : Key} {v : V} (h : ∀ p ∈ kvs, p.1 ≠ k) : putK kvs k v = kvs ++ [(k, v)] := by
  unfold putK
  rw [if_neg]
  intro q
  obtain ⟨p, hp, e⟩ := List.any_eq_true.mp q
  exact h p hp (of_decide_eq_true e)
theorem decS {x y : Str} : decide (V.str x = V.str y) = decide (x = y) := by
  by_cases q : x = y
  · rw [q]; simp
  · rw [decide_eq_false q, decide_eq_false (fun z => q (V.str.inj z))]
theorem ThAt.same {K : PySem.W.Frag} {H H' : Hp} {d : Addr} {es : List (Int × PyData)} {kvs : List (Key × V)} (x : ThAt K H d es kvs) (s : Same H H') : ThAt K H' d es kvs :=
  ⟨s _ _ x.at_, x.ks, dps_same s _ _ x.vs, x.th⟩
theorem flatDs_of : ∀ ds : List PyData, (∀ d ∈ ds, flatD d = true) → flatDs ds = true
  | [], _ => rfl
  | d :: ds, h => by simp [flatDs, h d List.mem_cons_self, flatDs_of ds fun x hx => h x (List.mem_cons_of_mem _ hx)]
theorem ThAt.fl {K : PySem.W.Frag} {H : Hp} {d : Addr} {es : List (Int × PyData)} {kvs : List (Key × V)} (x : ThAt K H d es kvs) : flatDs (es.map (·.2)) = true :=
  flatDs_of _ fun z hz => by
    obtain ⟨e, he, rfl⟩ := List.mem_map.mp hz
    exact (x.th e he).fl
theorem ThAt.kp {M : Addr → Prop} {K : PySem.W.Frag} {H H' : Hp} {d : Addr} {es : List (Int × PyData)} {kvs : List (Key × V)} (x : ThAt K H d es kvs) (k : Kp M H H') (n : ¬ M d) : ThAt K H' d es kvs :=
  ⟨k.st _ _ n x.at_, x.ks, dps_keep (fun _ _ h => k.tup h) _ _ x.fl x.vs, x.th⟩
theorem wt_int {i : Int} (h : i.natAbs < 10 ^ 12) : PyData.weight (.int i) ≤ 64 := by
  simp only [PyData.weight]
  split
  · omega
  · rename_i q
    have q' : i.natAbs ≠ 0 := by
      intro z
      apply q
      simp
      omega
    have := (Nat.log2_lt q').mpr (show i.natAbs < 2 ^ 63 from Nat.lt_of_lt_of_le h (by decide))
    omega
theorem ThAt.snoc {K : PySem.W.Frag} {H : Hp} {d : Addr} {es : List (Int × PyData)} {kvs : List (Key × V)} (x : ThAt K H d es kvs) {b : Int} {v : V} {t : PyData} (n : b ∉ es.map (·.1)) (hv : Dp K H v t) (ht : Th b t) :
    ThAt K (upd H d (.dK (putK kvs (Sum.inl b) v))) d (es ++ [(b, t)]) (putK kvs (Sum.inl b) v) := by
  have e1 : putK kvs (Sum.inl b) v = kvs ++ [(Sum.inl b, v)] := putK_end fun p hp q => n (by
    have : p.1 ∈ kvs.map (·.1) := List.mem_map.mpr ⟨p, hp, rfl⟩
    rw [x.ks] at this
    obtain ⟨e, he, e2⟩ := List.mem_map.mp this
    rw [q] at e2
    exact List.mem_map.mpr ⟨e, he, Sum.inl.inj e2⟩)
  have keep : ∀ a xs, SqT K H a xs → SqT K (upd H d (.dK (putK kvs (Sum.inl b) v))) a xs := fun a xs h => by
    rcases h with (h | ⟨o, h⟩) | h
    · exact .inl (.inl (by rw [upd_ne (ne_of h x.at_ (by intro z; cases z))]; exact h))
    · exact .inl (.inr ⟨o, by rw [upd_ne (ne_of h x.at_ (by intro z; cases z))]; exact h⟩)
    · exact .inr h
  refine ⟨upd_same, ?_, ?_, ?_⟩
  · rw [e1, List.map_append, List.map_append, x.ks]
    rfl
  · have h1 := dps_keep keep _ _ x.fl x.vs
    have h2 := dp_keep keep _ _ ht.fl hv
    rw [show (putK kvs (Sum.inl b) v).map (·.2) = kvs.map (·.2) ++ [v] by rw [e1, List.map_append]; rfl, List.map_append]
    exact DpAll.snoc h2 h1
  · intro e he
    rcases List.mem_append.mp he with he | he
    · exact x.th e he
    · cases List.mem_singleton.mp he
      exact ht
theorem Kp.mut {M : Addr → Prop} {H H' : Hp} {d : Addr} {o : HO} (k : Kp M H H') (hd : H d = Option.none) : Kp M H (upd H' d o) :=
  ⟨fun a u n e => by
    rw [upd_ne (ne_of_none e hd)]
    exact k.st a u n e, k.l1, fun a m => by
    have q : a ≠ d := fun q => k.m_of hd (q ▸ m)
    rw [upd_ne q]
    exact k.l2 a m⟩
theorem Hand.put {H : Hp} {h c d : Addr} {o : HO} (x : Hand H h c) (n : ∀ xs, H d ≠ some (.lst xs)) : Hand (upd H d o) h c := by
  obtain ⟨cells, i, b, t, e1, e2, q⟩ := x
  refine ⟨cells, i, b, t, ?_, ?_, q⟩
  · rw [upd_ne (fun z => n _ (z ▸ e1))]
    exact e1
  · rw [upd_ne (fun z => n _ (z ▸ e2))]
    exact e2
theorem Hand.puts {H : Hp} {h c d : Addr} {o : HO} (x : Hand H h c) (n1 : d ≠ h) (n2 : d ≠ c) : Hand (upd H d o) h c := by
  obtain ⟨cells, i, b, t, e1, e2, q⟩ := x
  exact ⟨cells, i, b, t, by rw [upd_ne (Ne.symm n1)]; exact e1, by rw [upd_ne (Ne.symm n2)]; exact e2, q⟩
theorem Hand.there {H : Hp} {h c d : Addr} (x : Hand H h c) (n : H d = Option.none) : d ≠ h ∧ d ≠ c := by
  obtain ⟨cells, i, b, t, e1, e2, q⟩ := x
  exact ⟨(ne_of_none e1 n).symm, (ne_of_none e2 n).symm⟩
theorem Hand.ne {H : Hp} {h c d : Addr} (x : Hand H h c) (n : ∀ xs, H d ≠ some (.lst xs)) : d ≠ h := fun z => by
  obtain ⟨xs, e⟩ := x.lst
  exact n xs (z ▸ e)
/-- 1 .. n -/
def births (n : Nat) : List Int := (List.range n).map fun (i : Nat) => (i : Int) + 1
theorem births_succ (n : Nat) : births (n + 1) = births n ++ [(n : Int) + 1] := by
  unfold births
  rw [List.range_succ, List.map_append]
  rfl
theorem births_mem {n : Nat} {b : Int} : b ∈ births n ↔ 1 ≤ b ∧ b ≤ n := by
  unfold births
  rw [List.mem_map]
  constructor
  · rintro ⟨i, hi, rfl⟩
    have := List.mem_range.mp hi
    omega
  · intro q
    exact ⟨(b - 1).toNat, List.mem_range.mpr (by omega), by omega⟩
/-- a new thing is put at the next birth -/
theorem things_put {K : PySem.W.Frag} {H H3 : Hp} {h c d : Addr} {es : List (Int × PyData)} {kvs : List (Key × V)} {i : Nat} {v : V} {t : PyData} (kh : Kh h H H3) (hh : Hand H3 h c) (x : ThAt K H3 d es kvs) (hd : H d = Option.none)
    (hk : es.map (·.1) = births i) (hi : i < 1000) (hv : Dp K H3 v t) (ht : Th (1 + i) t) :
    ∃ H4 es' kvs', DPut H3 d (.int (1 + (i : Nat))) v H4 ∧ Kh h H H4 ∧ Hand H4 h c ∧ ThAt K H4 d es' kvs' ∧ es'.map (·.1) = births (i + 1) := by
  have hb : (1 : Int) + i ∉ es.map (·.1) := by
    rw [hk, births_mem]
    omega
  have hl : kvs.length < sizeLine := by
    have e := congrArg List.length x.ks
    rw [List.length_map, List.length_map] at e
    have e2 := congrArg List.length hk
    rw [List.length_map] at e2
    have e3 : (births i).length = i := by unfold births; rw [List.length_map, List.length_range]
    rw [e, e2, e3]
    exact Nat.lt_trans hi (by decide)
  refine ⟨_, _, _, DPut.k (k := Sum.inl (1 + (i : Int))) x.at_ hl, kh.mut hd, hh.put (fun xs e => by rw [x.at_] at e; cases e), x.snoc hb hv ht, ?_⟩
  rw [List.map_append, hk, births_succ]
  show births i ++ [1 + (i : Int)] = _
  rw [show (1 : Int) + i = i + 1 by omega]
theorem births_len (n : Nat) : (births n).length = n := by
  unfold births
  rw [List.length_map, List.length_range]
end Cm

/-! comprehensions over data -/
namespace Cm
open PySem L2
theorem sqt_put {K : PySem.W.Frag} {H : Hp} {D a : Addr} {xs ys zs : List V} (h : H D = some (.lst ys)) (q : SqT K H a xs) : SqT K (upd H D (.lst zs)) a xs := by
  rcases q with (q | ⟨o, q⟩) | q
  · exact .inl (.inl (by rw [upd_ne (ne_of q h (by intro z; cases z))]; exact q))
  · exact .inl (.inr ⟨o, by rw [upd_ne (ne_of q h (by intro z; cases z))]; exact q⟩)
  · exact .inr q
theorem same_put {H H' : Hp} {D : Addr} {o : HO} (s : Same H H') (h : H D = Option.none) : Same H (upd H' D o) := fun b u e => by
  rw [upd_ne (ne_of_none e h)]
  exact s b u e
theorem sqt_same {K : PySem.W.Frag} {H H' : Hp} {a : Addr} {xs : List V} (s : Same H H') (h : SqT K H a xs) : SqT K H' a xs := by
  rcases h with (h | ⟨o, h⟩) | h
  · exact .inl (.inl (s _ _ h))
  · exact .inl (.inr ⟨o, s _ _ h⟩)
  · exact .inr h
theorem flatDs_all {ds : List PyData} (h : flatDs ds = true) : ∀ d ∈ ds, flatD d = true := by
  induction ds with
  | nil => intro d hd; cases hd
  | cons a r ih =>
    have h' : flatD a = true ∧ flatDs r = true := by simpa [flatDs] using h
    intro d hd
    rcases List.mem_cons.mp hd with rfl | hd
    · exact h'.1
    · exact ih h'.2 d hd
theorem flatDs_app {ds es : List PyData} (h1 : flatDs ds = true) (h2 : flatDs es = true) : flatDs (ds ++ es) = true :=
  flatDs_of _ fun d hd => by
    rcases List.mem_append.mp hd with q | q
    · exact flatDs_all h1 d q
    · exact flatDs_all h2 d q
theorem walk_upto {n : Nat} : Walk (Itr 0 n) n (fun _ => True) (YFn fun i => .int ((i : Nat) : Int)) :=
  ⟨fun _ _ hi _ => hi, fun _ _ => Nat.le_refl _, fun i H x H' _ _ y => ⟨y.1, by
    have := y.2
    rw [Int.zero_add] at this
    exact this⟩⟩
/-! ### the same rules where the context is a comprehension's block: K is said -/
section
variable {X : Cx} {K : PySem.W.Frag}
theorem kx_tup (h : X.K = K := by rfl) : IxR X (rIxT K) := by subst h; exact ix_tup
theorem kx_list (h : X.K = K := by rfl) : IxR X (rIxL K) := by subst h; exact ix_list
theorem kx_seq (h : X.K = K := by rfl) : IxR X (rIx K) := by subst h; exact ix_seq
theorem ko_eqD (hu : X.A.units + 64 < cLine) (h : X.K = K := by rfl) : OpR X (compareOp .Eq) (rEqD K) := by subst h; exact op_eqD hu
theorem ko_neD (hu : X.A.units + 64 < cLine) (h : X.K = K := by rfl) : OpR X (compareOp .NotEq) (rNeD K) := by subst h; exact op_neD hu
theorem ko_in (h : X.K = K := by rfl) : OpR X (compareOp .In) (rIn K false) := by subst h; exact op_in_seq
theorem ko_notIn (h : X.K = K := by rfl) : OpR X (compareOp .NotIn) (rIn K true) := by subst h; exact op_notIn_seq
theorem ko_catA (h : X.K = K := by rfl) : OpR X (binaryOp .Add) (rCatA K) := by subst h; exact op_catA
def rLen (K : PySem.W.Frag) : List V → Hp → VK → Prop := fun xs H Q => ∃ p ys, xs = [.ref p] ∧ (SqL K H p ys ∨ SqT K H p ys) ∧ Q (.int ys.length) H
theorem kc_len (h : X.K = K := by rfl) : CallR X (.builtin "len") (rLen K) := by subst h; exact call_len_seq
end
/-- a comprehension whose items are data without lists: R i is the i-th turn's, none if it is left out -/
theorem lc_data {K : PySem.W.Frag} {J : It} {n : Nat} {G : Hp → Prop} {Y : Nat → Hp → V → Hp → Prop} (wk : Walk J n G Y) {g : TG} {tt : TT} {te : TE} {vs : List Nat} {σ : L2.St} {H1 : Hp} {D : Addr} {Qd : Hp → Prop} (R : Nat → Option PyData)
    (hD : H1 D = Option.none) (hn : n ≤ 100000) (hG : ∀ H, Same H1 H → G H) (hfl : ∀ i < n, ∀ d, R i = some d → flatD d = true)
    (hs : ∀ i x H H', i < n → Same H1 H → Y i H x H' → ∀ (Q1 : VK) (Q0 : Hp → Prop), (∀ v H4 d, R i = some d → Same H H4 → Dp K H4 v d → Q1 v H4) → (∀ H3, R i = none → Same H H3 → Q0 H3) →
      g x (wipe σ vs) H' fun σ2 H2 => wipe σ2 vs = wipe σ vs ∧ tt σ2 H2 fun b H3 => if b = true then te σ2 H3 Q1 else Q0 H3)
    (hd : ∀ H acc, Same H1 H → H D = some (.lst acc) → DpAll K H acc ((List.range n).filterMap R) → Qd H) :
    ∃ W : Nat → Nat → Hp → Prop, (∃ m, W 0 m (upd H1 D (.lst []))) ∧ ∀ i m H, W i m H →
      (J.stop i H ∧ Qd H) ∨ (J.go i H ∧ ∃ Nx : Hp → Prop, (∀ H', Nx H' → ∃ m', m' < m ∧ W (i + 1) m' H') ∧ ∀ x H', J.yld i H x H' → g x (wipe σ vs) H' fun σ2 H2 => wipe σ2 vs = wipe σ vs ∧ tt σ2 H2 fun b H3 =>
        if b = true then te σ2 H3 fun y H4 => ∃ acc, H4 D = some (.lst acc) ∧ acc.length < sizeLine ∧ Nx (upd H4 D (.lst (acc ++ [y]))) else Nx H3) := by
  have fl : ∀ i ≤ n, flatDs ((List.range i).filterMap R) = true := fun i hi => flatDs_of _ fun d hd => by
    obtain ⟨j, hj, e⟩ := List.mem_filterMap.mp hd
    exact hfl j (by have := List.mem_range.mp hj; omega) d e
  refine lc_it wk (fun i H => ∃ acc, Same H1 H ∧ H D = some (.lst acc) ∧ DpAll K H acc ((List.range i).filterMap R) ∧ acc.length ≤ i) ⟨[], same_new hD, upd_same, .nil, Nat.le_refl _⟩ (fun i H _ z => ?_) ?_ ?_
  · obtain ⟨acc, s, _⟩ := z
    exact hG H s
  · rintro i x H H' hi ⟨acc, s, hacc, ha, hl⟩ y
    refine hs i x H H' hi s y _ _ (fun v H4 d e s4 hv => ?_) (fun H3 e s3 => ?_)
    · have hD4 := s4 _ _ hacc
      refine ⟨acc, hD4, Nat.lt_of_le_of_lt hl (Nat.lt_of_lt_of_le (show i < 100000 by omega) (by decide)), acc ++ [v], same_put (s.trans s4) hD, upd_same, ?_, by rw [List.length_append]; exact Nat.succ_le_succ hl⟩
      rw [List.range_succ, List.filterMap_append]
      have e1 : ([i].filterMap R) = [d] := by simp [e]
      rw [e1]
      exact DpAll.snoc (dp_keep (fun _ _ q => sqt_put hD4 q) _ _ (hfl i hi d e) hv) (dps_keep (fun _ _ q => sqt_put hD4 q) _ _ (fl i (by omega)) (dps_same s4 _ _ ha))
    · refine ⟨acc, s.trans s3, s3 _ _ hacc, ?_, by omega⟩
      rw [List.range_succ, List.filterMap_append]
      have e1 : ([i].filterMap R) = [] := by simp [e]
      rw [e1, List.append_nil]
      exact dps_same s3 _ _ ha
  · rintro H ⟨acc, s, hacc, ha, _⟩
    exact hd H acc s hacc ha
/-- a comprehension that draws: each item is data that is good -/
theorem lc_draw {K : PySem.W.Frag} {M : Addr → Prop} {J : It} {n : Nat} {G : Hp → Prop} {Y : Nat → Hp → V → Hp → Prop} (wk : Walk J n G Y) {g : TG} {tt : TT} {te : TE} {vs : List Nat} {σ : L2.St} {H1 : Hp} {D : Addr} {Qd : Hp → Prop}
    (I : Hp → Prop) (Gd : PyData → Prop) (hM : ∀ a, M a → ∃ xs, H1 a = some (.lst xs)) (h0 : I (upd H1 D (.lst []))) (hI : ∀ H ys, Kp M H1 H → I H → I (upd H D (.lst ys)))
    (hD : H1 D = Option.none) (hn : n ≤ 100000) (hG : ∀ H, Kp M H1 H → I H → G H) (hfl : ∀ d, Gd d → flatD d = true)
    (hs : ∀ i x H H', i < n → Kp M H1 H → I H → Y i H x H' → ∀ (Q1 : VK) (Q0 : Hp → Prop), (∀ v H4 d, Gd d → Kp M H H4 → I H4 → Dp K H4 v d → Q1 v H4) → (∀ H3, Kp M H H3 → I H3 → Q0 H3) →
      g x (wipe σ vs) H' fun σ2 H2 => wipe σ2 vs = wipe σ vs ∧ tt σ2 H2 fun b H3 => if b = true then te σ2 H3 Q1 else Q0 H3)
    (hd : ∀ H acc ds, Kp M H1 H → I H → H D = some (.lst acc) → DpAll K H acc ds → (∀ d ∈ ds, Gd d) → ds.length ≤ n → Qd H) :
    ∃ W : Nat → Nat → Hp → Prop, (∃ m, W 0 m (upd H1 D (.lst []))) ∧ ∀ i m H, W i m H →
      (J.stop i H ∧ Qd H) ∨ (J.go i H ∧ ∃ Nx : Hp → Prop, (∀ H', Nx H' → ∃ m', m' < m ∧ W (i + 1) m' H') ∧ ∀ x H', J.yld i H x H' → g x (wipe σ vs) H' fun σ2 H2 => wipe σ2 vs = wipe σ vs ∧ tt σ2 H2 fun b H3 =>
        if b = true then te σ2 H3 fun y H4 => ∃ acc, H4 D = some (.lst acc) ∧ acc.length < sizeLine ∧ Nx (upd H4 D (.lst (acc ++ [y]))) else Nx H3) := by
  have nM : ¬ M D := fun m => by
    obtain ⟨xs, e⟩ := hM D m
    rw [hD] at e
    cases e
  refine lc_it wk (fun i H => ∃ acc ds, Kp M H1 H ∧ I H ∧ H D = some (.lst acc) ∧ DpAll K H acc ds ∧ (∀ d ∈ ds, Gd d) ∧ ds.length ≤ i) ⟨[], [], Kp.new hM hD, h0, upd_same, .nil, (by intro d hd; cases hd), Nat.le_refl _⟩ (fun i H _ z => ?_) ?_ ?_
  · obtain ⟨acc, ds, s, iH, _⟩ := z
    exact hG H s iH
  · rintro i x H H' hi ⟨acc, ds, s, iH, hacc, ha, hg, hl⟩ y
    have fl : flatDs ds = true := flatDs_of _ fun d hd => hfl d (hg d hd)
    refine hs i x H H' hi s iH y _ _ (fun v H4 d e s4 i4 hv => ?_) (fun H3 s3 i3 => ?_)
    · have hD4 := s4.st _ _ nM hacc
      refine ⟨acc, hD4, ?_, acc ++ [v], ds ++ [d], (s.trans s4).mut hD, hI _ _ (s.trans s4) i4, upd_same, ?_, ?_, by rw [List.length_append]; exact Nat.succ_le_succ hl⟩
      · rw [DpAll.len ha]
        exact Nat.lt_of_le_of_lt hl (Nat.lt_of_lt_of_le (show i < 100000 by omega) (by decide))
      · exact DpAll.snoc (dp_keep (fun _ _ q => sqt_put hD4 q) _ _ (hfl d e) hv) (dps_keep (fun _ _ q => sqt_put hD4 q) _ _ fl (dps_keep (fun _ _ q => s4.tup q) _ _ fl ha))
      · intro d' hd'
        rcases List.mem_append.mp hd' with q | q
        · exact hg d' q
        · cases List.mem_singleton.mp q
          exact e
    · exact ⟨acc, ds, s.trans s3, i3, s3.st _ _ nM hacc, dps_keep (fun _ _ q => s3.tup q) _ _ fl ha, hg, by omega⟩
  · rintro H ⟨acc, ds, s, iH, hacc, ha, hg, hl⟩
    exact hd H acc ds s iH hacc ha hg hl
/-! ### data that repr takes -/
structure Sm (D W : Nat) (d : PyData) : Prop where
  ok : okD d = true
  dp : d.depth ≤ D
  wt : d.weight ≤ W
theorem Sm.mono {D W D' W' : Nat} {d : PyData} (x : Sm D W d) (h1 : D ≤ D') (h2 : W ≤ W') : Sm D' W' d := ⟨x.ok, Nat.le_trans x.dp h1, Nat.le_trans x.wt h2⟩
theorem sm_int {i : Int} (h : i.natAbs < 10 ^ 12) : Sm 0 64 (.int i) := ⟨by simp only [okD]; exact decide_eq_true h, by simp [PyData.depth], wt_int h⟩
theorem sm_all {D W : Nat} : ∀ {ds : List PyData}, (∀ d ∈ ds, Sm D W d) → okDs ds = true ∧ PyData.depthAll ds ≤ D ∧ PyData.weightAll ds ≤ ds.length * (W + 2)
  | [], _ => ⟨rfl, by simp [PyData.depthAll], by simp [PyData.weightAll]⟩
  | d :: ds, h => by
    have a := h d List.mem_cons_self
    obtain ⟨b1, b2, b3⟩ := sm_all (ds := ds) fun x hx => h x (List.mem_cons_of_mem _ hx)
    refine ⟨by simp [okDs, a.ok, b1], ?_, ?_⟩
    · have := a.dp
      simp only [PyData.depthAll]
      omega
    · have := a.wt
      simp only [PyData.weightAll, List.length_cons, Nat.add_mul]
      omega
theorem Sm.tuple {D W m : Nat} {ds : List PyData} (h : ∀ d ∈ ds, Sm D W d) (hm : ds.length ≤ m) : Sm (D + 1) (m * (W + 2)) (.tuple ds) := by
  obtain ⟨a, b, c⟩ := sm_all h
  refine ⟨by simpa [okD] using a, ?_, ?_⟩
  · simp only [PyData.depth]
    omega
  · simp only [PyData.weight]
    exact Nat.le_trans c (Nat.mul_le_mul_right _ hm)
theorem Sm.rep {K : PySem.W.Frag} {H : Hp} {x : V} {D W : Nat} {d : PyData} {Q : VK} (s : Sm D W d) (h1 : D ≤ 60) (h2 : W ≤ 2 ^ 20) (hd : Rp K H x d) (q : Q (.str d.shown) H) : rRepr K [x] H Q :=
  ⟨x, d, rfl, hd, s.ok, Nat.le_trans s.dp h1, Nat.le_trans s.wt h2, q⟩
theorem sm_kv {D W : Nat} : ∀ {es : List (Int × PyData)}, (∀ e ∈ es, e.1.natAbs < 10 ^ 12 ∧ Sm D W e.2) → okDk (es.map fun e => (PyData.int e.1, e.2)) = true ∧ PyData.depthKv (es.map fun e => (PyData.int e.1, e.2)) ≤ D ∧ PyData.weightKv (es.map fun e => (PyData.int e.1, e.2)) ≤ es.length * (W + 70)
  | [], _ => ⟨rfl, by simp [PyData.depthKv], by simp [PyData.weightKv]⟩
  | e :: es, h => by
    obtain ⟨a1, a⟩ := h e List.mem_cons_self
    obtain ⟨b1, b2, b3⟩ := sm_kv (es := es) fun x hx => h x (List.mem_cons_of_mem _ hx)
    have i := sm_int a1
    refine ⟨by simp [okDk, a.ok, b1, i.ok], ?_, ?_⟩
    · have := a.dp
      have := i.dp
      simp only [List.map_cons, PyData.depthKv]
      omega
    · have := a.wt
      have := i.wt
      simp only [List.map_cons, PyData.weightKv, List.length_cons, Nat.add_mul] at this ⊢
      omega
/-- what repr is asked of -/
def Rok (K : PySem.W.Frag) (H : Hp) (x : V) (d : PyData) : Prop := Rp K H x d ∧ okD d = true ∧ d.depth ≤ 60 ∧ d.weight ≤ 2 ^ 20
theorem Sm.rok {K : PySem.W.Frag} {H : Hp} {x : V} {D W : Nat} {d : PyData} (s : Sm D W d) (h1 : D ≤ 60) (h2 : W ≤ 2 ^ 20) (hd : Rp K H x d) : Rok K H x d :=
  ⟨hd, s.ok, Nat.le_trans s.dp h1, Nat.le_trans s.wt h2⟩
/-- the whole dict of things -/
theorem ThAt.rok {K : PySem.W.Frag} {H : Hp} {d : Addr} {es : List (Int × PyData)} {kvs : List (Key × V)} (x : ThAt K H d es kvs) {n : Nat} (hk : es.map (·.1) = births n) (hn : n ≤ 100) : Rok K H (.ref d) (PyData.dict (es.map fun e => (PyData.int e.1, e.2))) := by
  obtain ⟨a, b, c⟩ := sm_kv (D := 8) (W := 4000) (es := es) fun e he => by
    have m : e.1 ∈ births n := by rw [← hk]; exact List.mem_map.mpr ⟨e, he, rfl⟩
    have := births_mem.mp m
    exact ⟨by omega, ⟨(x.th e he).ok, (x.th e he).dp, (x.th e he).wt⟩⟩
  have hl : es.length = n := by
    have e := congrArg List.length hk
    rw [List.length_map, births_len] at e
    exact e
  refine ⟨.inr ⟨d, kvs, es, rfl, x.at_, x.ks, x.vs, x.fl, rfl⟩, by simpa [okD] using a, ?_, ?_⟩
  · simp only [PyData.depth]
    omega
  · simp only [PyData.weight]
    refine Nat.le_trans c ?_
    rw [hl]
    exact Nat.le_trans (Nat.mul_le_mul_right _ hn) (by decide)
end Cm

/-! defs that may ask repr, called by name where nothing is under repr -/
namespace Cm
open PySem L2 PySem.Spec PyProof.Rows
structure ClG (P : Program) (w : World) (K : PySem.W.Frag) (mg : Str → Option Value) (base : Heap) (k : Nat) (x : Str) (sp : Sp) : Prop where
  ex : ∃ (f : Addr) (fd : FuncData) (ps : List Str), (∀ vs H Q E, sp vs H Q E → vs.length = ps.length) ∧ LawAt P w K mg base k f fd ps sp ∧ mg x = some (.ref f) ∧ PySem.W.keepIn K (.ref f) = true ∧ Binds K fd ps []
section
variable {P : Program} {w : World} {K : PySem.W.Frag} {mg : Str → Option Value} {base : Heap}
theorem clG_of {x : Str} {st : Stmt} {N ps : List Str} {k : Nat} {sp : Sp} (T : At K mg x st ps) (S : FnScope N ps (defScope st))
    (len : ∀ vs H Q E, sp vs H Q E → vs.length = ps.length)
    (hb : ∀ (f : Addr) (cdv : Value) (A : Around) (outer : List Env) (s : Shared) (H : Hp) (vs : List V) (Q : VK) (E : XK), (A.deeper (envOfC x (defScope st) s.heap.objs.size f cdv)).guards = some [] →
      Room k (A.deeper (envOfC x (defScope st) s.heap.objs.size f cdv)) → sp vs H Q E →
      ∃ t, PSs (cxOf CX0 P w K mg base N x (defScope st) f cdv A outer s H E).nox (defBody st) t ∧ t { nx := fun _ H' => Q .non H', rt := Q } (start N vs) H) :
    ClG P w K mg base (k + 1) x sp := by
  obtain ⟨f, fd, F, hm, b⟩ := T.ex
  exact ⟨f, fd, ps, len, lawAt_of F S len fun cdv A outer s H vs Q E hg => hb f cdv A outer s H vs Q E hg, hm, F.kp, b⟩
end
section
variable {X : Cx} {j k : Nat} {x : Str} {sp : Sp} {e : Expr} {es : List Expr} {t : TA} {p pos : Pos}
theorem pe_cG (c : ClG X.prog X.w X.K X.mg X.base k x sp) (hgd : X.A.guards = some []) (hr : Room j X.A) (hk : k ≤ j) (hg : Gl X x) (ha : PA X (e :: es) t)
    (hdb : (x == ("__debug__" : Str)) = false := by decide) (he : starEach (e :: es) X.env = (false, eval e X.env) :: starEach es X.env := by rfl)
    (hpl : (backTo pos (starEach es X.env)).any (·.1) = false := by rfl) : PE X (.Call (.Name x p) (e :: es) [] pos) (tCall sp [] E0 t) := by
  obtain ⟨f, fd, ps, len, F, hm, kp, b⟩ := c.ex
  refine ⟨fun pins s σ H Q I h => ?_⟩
  refine wpAny_Call_Name_kw (ld_glob I hg hm ?_ hdb)
  refine PySem.W.callWith_K (h₀ := X.base) I.ok.mod.kin kp (thn (ha.run pos pins s σ H _ I h) fun us s1 ⟨vs, H1, I1, r, q⟩ => ⟨I1.kIn, ?_⟩) he hpl
  have q' : sp vs H1 Q E0 := by
    have q0 : sp (vs ++ []) H1 Q E0 := q
    rwa [List.append_nil] at q0
  have hl : us.length = ps.length := by rw [← r.length]; exact len _ _ _ _ q'
  have hb := b s1 us I1.kIn (by rw [List.append_nil]; exact hl)
  rw [List.append_nil] at hb
  refine wpAny_call (codeAny_mono (F X.A X.stack s1 H1 ⟨us, []⟩ us vs Q E0 hgd (hr.mono hk) I1.env0 hb r q') fun r s' hq => ?_)
  cases r with
  | error e => exact pass0 pins σ H1 s1 e s' I1 hq
  | ok fl =>
    cases fl with
    | ret u => exact I1.after hq
    | next => exact False.elim hq
    | brk => exact False.elim hq
    | cont => exact False.elim hq
end
/-! ### a walk over a list or a tuple -/
def iSeq (K : PySem.W.Frag) (tl : TE) : TI := fun σ H R => tl σ H fun x H1 => ∃ a, x = .ref a ∧ ((∃ xs, SqL K H1 a xs) ∧ R (Itl K a) H1 ∨ (∃ xs, SqT K H1 a xs) ∧ R (Itt K a) H1)
theorem pi_seq {X : Cx} {tg l : Expr} {tl : TE} (hl : PE X l tl) : PI X tg l (iSeq X.K tl) := by
  refine ⟨fun pins s σ H R I h => ?_⟩
  refine thn (hl.run pins s σ H _ I h) fun v s1 ⟨x, H1, I1, r1, q1⟩ => ?_
  obtain ⟨a, rfl, q1⟩ := q1
  cases r1
  have fp : ∀ b ∈ [s1.heap.objs.size], b = s1.heap.objs.size := fun b hb => by simpa using hb
  rcases q1 with ⟨⟨xs, hq⟩, q⟩ | ⟨⟨xs, hq⟩, q⟩
  · obtain ⟨its, rv, p, hz⟩ := I1.list hq
    refine wpAny_pyIter_list p.isList ?_
    refine ⟨_, _, _, _, H1, rfl, I1.kept (t' := s1.toks) fun b o e => Heap.get?_push_of_some _ e, turn_list a _, ⟨_, Heap.get?_push_size _ rfl, rfl, rfl⟩, fun b hb => ?_, q⟩
    cases fp b hb
    exact I1.fpOk (Nat.le_refl _) (I1.hok.fresh (Nat.le_refl _))
  · obtain ⟨its, rv, p, hz⟩ := I1.tuple hq
    refine wpAny_pyIter_tuple (show s1.heap.IsTuple a its.toArray from p) ?_
    refine ⟨_, _, _, _, H1, rfl, I1.kept (t' := s1.toks) fun b o e => Heap.get?_push_of_some _ e, turn_tuple a _, ⟨_, Heap.get?_push_size _ rfl, rfl, rfl⟩, fun b hb => ?_, q⟩
    cases fp b hb
    exact I1.fpOk (Nat.le_refl _) (I1.hok.fresh (Nat.le_refl _))
theorem ks_tupA {X : Cx} {K : PySem.W.Frag} (h : X.K = K := by rfl) : SlR X (rSlA K) := by subst h; exact sl_tupA
theorem ne_same (x : V) : (!decide (x = x)) = false := by simp
theorem tyx_tup {K : PySem.W.Frag} {H : Hp} {a : Addr} {xs : List V} (h : SqT K H a xs) : TyX K H (.ref a) (.type "tuple") := by
  rcases h with (h | ⟨o, h⟩) | ⟨o, its, n, e, c, _⟩
  · exact .base (.tup h)
  · exact .fTuple h
  · exact .kTuple e c
theorem kit_tup {K : PySem.W.Frag} : PySem.W.kitOne K (.type "tuple") (.type "tuple") = some true := by rfl
end Cm

namespace K04
open PySem L2 Cm
def top (i : Nat) : Stmt := PySem.Challenge.pw_goonagain_k04_whole_set_names_held_in_pa.main.body.getD i (.Pass ⟨0, 0, 0, 0⟩)
structure Txt (mg : Str → Option Value) : Prop where
  abs : mg "abs" = none
  enumerate : mg "enumerate" = none
  int : mg "int" = none
  len : mg "len" = none
  list : mg "list" = none
  min : mg "min" = none
  range : mg "range" = none
  sorted : mg "sorted" = none
  str : mg "str" = none
  tuple : mg "tuple" = none
  zip : mg "zip" = none
section
variable {P : Program} {w : World} {K : PySem.W.Frag} {mg : Str → Option Value} {base : Heap}
-- mix
abbrev s_l_mix : Stmt := top 15
abbrev N_l_mix : List Str := ["_law_number", "_law_turn", "_law_once", "_law_twice"]
theorem sc_l_mix : FnScope N_l_mix ["_law_number", "_law_turn"] (defScope s_l_mix) := ⟨rfl, rfl, rfl, by decide +kernel, rfl, by decide +kernel, by decide +kernel⟩
theorem ok_mix (T : Txt mg) (D : At K mg "_law_mix" s_l_mix ["_law_number", "_law_turn"]) : Cl P w K mg base 1 "_law_mix" spMix := by
  refine cl_of D sc_l_mix (fun vs H Q E h => ?_) fun f cdv A outer s H vs Q E hr h => ?_
  · obtain ⟨a, b, rfl, _⟩ := h
    rfl
  · obtain ⟨a, b, rfl, k⟩ := h
    refine ⟨_, (pss_cons (ps_set (i := 2) sc_l_mix.nd rfl (Or.inl rfl) (pe_op op_mod (pe_callTy call_int1 (by rfl) T.int (by decide +kernel) (pa_cons (pe_op op_add (pe_op op_add (pe_op op_mul (pv 0) pe_int) (pe_op op_mul (pv 1) pe_int)) pe_int) pa_nil)) pe_int))
      (pss_cons (ps_set (i := 3) sc_l_mix.nd rfl (Or.inl rfl) (pe_op op_mod (pe_callTy call_int1 (by rfl) T.int (by decide +kernel) (pa_cons (pe_op op_add (pe_op op_add (pe_op op_mul (pv 2) (pv 2)) (pe_op op_mul (pe_op op_fdiv (pv 2) pe_int) pe_int)) (pe_op op_mul (pv 1) pe_int)) pa_nil)) pe_int))
      (pss_one (ps_ret (pe_op op_fdiv (pe_op op_mod (pe_callTy call_int1 (by rfl) T.int (by decide +kernel) (pa_cons (pe_op op_add (pe_op op_fdiv (pe_op op_mul (pv 3) (pv 3)) pe_int) (pv 2)) pa_nil)) pe_int) pe_int))))), ?_⟩
    refine ⟨_, rfl, _, _, rfl, rfl, .inr (by decide), ?_⟩
    refine ⟨_, rfl, _, _, rfl, rfl, .inr (by decide), ?_⟩
    refine ⟨_, _, rfl, rfl, _, _, rfl, rfl, .inl ⟨_, rfl, _, _, rfl, rfl, (by show (0 : Int) < _; decide), ?_⟩⟩
    generalize hx : (a * 48271 + b * 16807 + 11) % 2147483647 = x
    have x0 : 0 ≤ x := by omega
    have x1 : x < 2147483647 := by omega
    clear hx
    refine ⟨_, rfl, _, rfl, _, _, rfl, rfl, .inl ⟨by omega, by omega⟩, ?_⟩
    refine ⟨_, rfl, _, _, rfl, rfl, ⟨by decide, by decide⟩, _, _, rfl, rfl, .inr (by decide), ?_⟩
    refine ⟨_, _, rfl, rfl, _, rfl, _, _, rfl, rfl, .inr (by decide), _, _, rfl, rfl, .inl ⟨_, rfl, _, _, rfl, rfl, (by show (0 : Int) < _; decide), ?_⟩⟩
    generalize hy : (x * x + x / 127 * 40692 + b * 69621) % 2147483399 = y
    have y0 : 0 ≤ y := by omega
    have y1 : y < 2147483399 := by omega
    clear hy
    refine ⟨_, rfl, _, rfl, _, _, rfl, rfl, .inl ⟨by omega, by omega⟩, _, _, rfl, rfl, ⟨by decide, by decide⟩, ?_⟩
    refine ⟨_, rfl, _, _, rfl, rfl, .inl ⟨_, rfl, _, _, rfl, rfl, (by show (0 : Int) < _; decide), _, _, rfl, rfl, ⟨by decide, by decide⟩, ?_⟩⟩
    exact k _
-- hand
abbrev s_l_hand : Stmt := top 16
abbrev N_l_hand : List Str := ["_law_script", "_law_total", "_law_k", "_law_cell"]
theorem sc_l_hand : FnScope N_l_hand ["_law_script"] (defScope s_l_hand) := ⟨rfl, rfl, rfl, by decide +kernel, rfl, by decide +kernel, by decide +kernel⟩
theorem ok_hand (T : Txt mg) (D : At K mg "_law_hand" s_l_hand ["_law_script"]) : Cl P w K mg base 1 "_law_hand" (spHand K) := by
  refine cl_of D sc_l_hand (fun vs H Q E h => ?_) fun f cdv A outer s H vs Q E hr h => ?_
  · obtain ⟨a, ns, rfl, _⟩ := h
    rfl
  · obtain ⟨a, ns, rfl, hS, hlen, k⟩ := h
    refine ⟨_, (pss_cons (ps_set (i := 1) sc_l_hand.nd rfl (Or.inl rfl) pe_int)
      (pss_cons (ps_for PassesOwn.never rfl (pi_enum (by rfl) T.enumerate (pa_cons (pv 0) pa_nil)) (pg_tup (by rfl) (pgs_cons (pg_name (i := 2) sc_l_hand.nd rfl (Or.inl rfl)) (pgs_cons (pg_name (i := 3) sc_l_hand.nd rfl (Or.inl rfl)) pgs_nil)))
        (pss_one (ps_set (i := 1) sc_l_hand.nd rfl (Or.inl rfl) (pe_op op_mod (pe_callTy call_int1 (by rfl) T.int (by decide +kernel) (pa_cons (pe_op op_add (pe_op op_mul (pv 1) pe_int) (pe_op op_mul (pe_callTy call_int1 (by rfl) T.int (by decide +kernel) (pa_cons (pv 3) pa_nil)) (pe_op op_add (pv 2) pe_int))) pa_nil)) pe_int))))
      (pss_one (ps_ret (pe_lst (pa_cons (pe_lc (own := [("_law_cell", 3)]) rfl sc_l_hand.nd (pi_list (pv 0)) (blkOk_by (N := N_l_hand) (sc := defScope s_l_hand) (by decide +kernel))
      (fun _ _ _ _ _ => (pg_name (i := 3) sc_l_hand.nd rfl (Or.inl rfl)))
      (fun _ _ _ _ _ => pts_nil)
      (fun _ _ _ _ _ => (pe_callB call_abs (by rfl) T.abs (by decide +kernel) (pa_cons (pe_callTy call_int1 (by rfl) T.int (by decide +kernel) (pa_cons (pv 3) pa_nil)) pa_nil)))) (pa_cons pe_int (pa_cons pe_int (pa_cons (pv 1) pa_nil))))))))), ?_⟩
    refine ⟨_, rfl, a, _, rfl, hS, ?_⟩
    refine for_it (walk_enum (xs := ns.map V.int)) (fun i σ H' => ∃ (t : Int) (v2 v3 : Option V), σ = [some (.ref a), some (.int t), v2, v3] ∧ Same H H') ⟨0, none, none, rfl, Same.refl H⟩ (fun i σ H' _ z => ?_) ?_ ?_
    · obtain ⟨t, v2, v3, rfl, s1⟩ := z
      exact s1.seq hS
    · rintro i x σ H1 H2 hi ⟨t, v2, v3, rfl, s1⟩ ⟨T1, x1, x2, rfl, hT, rfl, e1, e2⟩
      cases e1
      obtain ⟨n, en, rfl⟩ := map_at e2
      refine ⟨T1, _, rfl, .inl (.inl upd_same), rfl, _, _, rfl, _, _, rfl, rfl, ?_⟩
      refine ⟨_, rfl, _, _, rfl, rfl, .inr (by decide), _, rfl, .inl ⟨_, rfl, ?_⟩⟩
      refine ⟨_, rfl, _, _, rfl, rfl, _, _, rfl, rfl, .inr ⟨?_, ?_⟩, ?_⟩
      · rw [List.length_map] at hi
        omega
      · rw [List.length_map] at hi
        omega
      refine ⟨_, _, rfl, rfl, .inl ⟨_, rfl, _, _, rfl, rfl, (by show (0 : Int) < _; decide), ?_⟩⟩
      exact ⟨_, _, _, rfl, s1.trans (same_new hT)⟩
    · rintro σ H1 ⟨t, v2, v3, rfl, s1⟩
      refine ⟨_, rfl, a, rfl, ⟨_, s1.seq hS⟩, fun D hD => ?_⟩
      refine lc_it (walk_list (xs := ns.map V.int)) (fun i H' => ∃ acc : List Int, Same H1 H' ∧ H' D = some (.lst (acc.map V.int)) ∧ acc.length = i) ⟨[], same_new hD, upd_same, rfl⟩ (fun i H' _ z => ?_) ?_ ?_
      · obtain ⟨acc, s2, _⟩ := z
        exact (s1.trans s2).seq hS
      · rintro i x H2 H3 hi ⟨acc, s2, hacc, hl⟩ ⟨rfl, e2⟩
        obtain ⟨n, en, rfl⟩ := map_at e2
        rw [List.length_map] at hi
        refine ⟨rfl, ?_⟩
        refine ⟨_, rfl, .inl ⟨_, rfl, _, rfl, _, hacc, ?_, ?_⟩⟩
        · rw [List.length_map]
          exact Nat.lt_of_lt_of_le (show acc.length < 63 by omega) (by decide)
        · refine ⟨acc ++ [if n < 0 then -n else n], fun b o e => ?_, ?_, ?_⟩
          · have hb : b ≠ D := ne_of_none e hD
            rw [upd_ne hb]
            exact s2 b o e
          · rw [upd_same, List.map_append]
            rfl
          · rw [List.length_append, hl]
            rfl
      · rintro H2 ⟨acc, s2, hacc, hl⟩
        refine ⟨_, rfl, by show 4 ≤ sizeLine; decide, fun p hp => ?_⟩
        rw [List.length_map] at hl
        have npD : D ≠ p := ne_of_none hacc hp
        refine k p D _ ((s1.trans s2).trans (same_new hp)) ((s1.trans s2).free hp) (s1.free hD) ⟨acc, _, _, _, upd_same, ?_, npD, Int.le_refl 0, by omega⟩
        rw [upd_ne npD]
        exact hacc
end
section
variable {P : Program} {w : World} {K : PySem.W.Frag} {mg : Str → Option Value} {base : Heap}
abbrev s_l_draw : Stmt := top 17
abbrev N_l_draw : List Str := ["_law_hand_here", "_law_many", "_law_cell", "_law_rest"]
theorem sc_l_draw : FnScope N_l_draw ["_law_hand_here", "_law_many"] (defScope s_l_draw) := ⟨rfl, rfl, rfl, by decide +kernel, rfl, by decide +kernel, by decide +kernel⟩
theorem ok_draw (T : Txt mg) (c_l_mix : Cl P w K mg base 1 "_law_mix" spMix) (D : At K mg "_law_draw" s_l_draw ["_law_hand_here", "_law_many"]) : Cl P w K mg base 2 "_law_draw" spDraw := by
  refine cl_of D sc_l_draw (fun vs H Q E h => ?_) fun f cdv A outer s H vs Q E hr h => ?_
  · obtain ⟨h, c, m, rfl, _⟩ := h
    rfl
  · obtain ⟨h, c, m, rfl, ⟨cells, i, b, t, e1, e2, nch, hi, hlen⟩, hm0, hm1, k⟩ := h
    refine ⟨_, (pss_mid (ps_if (PW.pt (pw_and (pt_cmpR op_eq (pe_ix ix_list (pv 0) pe_int (fun _ _ => rfl)) pe_int (nomark _)) (pw_and1 (pt_cmpR op_lt (pe_ix ix_list (pv 0) pe_int (fun _ _ => rfl)) (pe_callB call_len_seq (by rfl) T.len (by decide +kernel) (pa_cons (pe_ix ix_list (pv 0) pe_int (fun _ _ => rfl)) pa_nil)) (nomark _)))))
        (pss_cons (ps_set (i := 2) sc_l_draw.nd rfl (Or.inl rfl) (pe_ix ix_list (pe_ix ix_list (pv 0) pe_int (fun _ _ => rfl)) (pe_ix ix_list (pv 0) pe_int (fun _ _ => rfl)) (fun _ _ => rfl)))
        (pss_cons (ps_asg (pe_op op_add (pe_ix ix_list (pv 0) pe_int (fun _ _ => rfl)) pe_int) (pg_sub (pv 0) pe_int set_list))
        (pss_cons (ps_if (pt_cmpR op_lt (pv 2) (pe_op op_pow pe_int pe_int) (nomark _))
          (pss_one (ps_ret (pe_op op_mod (pe_callTy call_int1 (by rfl) T.int (by decide +kernel) (pa_cons (pe_c c_l_mix hr (by decide) (by rfl) (pa_cons (pe_op op_mod (pe_callTy call_int1 (by rfl) T.int (by decide +kernel) (pa_cons (pv 2) pa_nil)) pe_int) (pa_cons (pe_ix ix_list (pv 0) pe_int (fun _ _ => rfl)) pa_nil))) pa_nil)) (pv 1))))
          pss_nil)
        (pss_one (ps_asg (pv 2) (pg_sub (pv 0) pe_int set_list))))))
        pss_nil)
      (pss_cons (ps_if (pt_cmpR op_gt (pe_ix ix_list (pv 0) pe_int (fun _ _ => rfl)) pe_int (nomark _))
        (pss_cons (ps_set (i := 3) sc_l_draw.nd rfl (Or.inl rfl) (pe_ix ix_list (pv 0) pe_int (fun _ _ => rfl)))
        (pss_cons (ps_asg (pe_op op_fdivW (pv 3) (pv 1)) (pg_sub (pv 0) pe_int set_list))
        (pss_one (ps_ret (pe_op op_mod (pe_callTy call_int1 (by rfl) T.int (by decide +kernel) (pa_cons (pv 3) pa_nil)) (pv 1))))))
        pss_nil)
      (pss_cons (ps_asg (pe_op op_mod (pe_callTy call_int1 (by rfl) T.int (by decide +kernel) (pa_cons (pe_op op_add (pe_ix ix_list (pv 0) pe_int (fun _ _ => rfl)) pe_int) pa_nil)) pe_int) (pg_sub (pv 0) pe_int set_list))
      (pss_one (ps_ret (pe_op op_mod (pe_callTy call_int1 (by rfl) T.int (by decide +kernel) (pa_cons (pe_c c_l_mix hr (by decide) (by rfl) (pa_cons (pe_ix ix_list (pv 0) pe_int (fun _ _ => rfl)) (pa_cons (pe_ix ix_list (pv 0) pe_int (fun _ _ => rfl)) pa_nil))) pa_nil)) (pv 1))))))), ?_⟩
    have big : CDivW b m := wide_div (b := 100) hm0 (by omega) (by decide) (by decide)
    have kh0 : ∀ {ys : List V}, Kh h H (upd H h (.lst ys)) := Kp.put (fun a ha => by rw [ha]; exact ⟨_, e1⟩) rfl
    refine ⟨fun σ' H' => ∃ (i b t : Int) (v2 v3 : Option V), σ' = [some (.ref h), some (.int m), v2, v3] ∧ Kh h H H' ∧ H' h = some (.lst [.ref c, .int i, .int b, .int t]) ∧ H' c = some (.lst (cells.map V.int)) ∧ 0 ≤ i, ?_, ?_⟩
    · refine ⟨_, rfl, _, _, _, _, rfl, rfl, .inl (.inl e1), rfl, rfl, _, rfl, ?_⟩
      refine ite2 (fun _ => ?_) (fun _ => ?_)
      · refine ⟨_, rfl, _, _, _, _, rfl, rfl, .inl (.inl e1), rfl, _, rfl, _, _, _, _, rfl, rfl, .inl (.inl e1), rfl, c, _, rfl, .inl (.inl (.inl e2)), _, _, rfl, rfl, _, rfl, ?_⟩
        refine ite2 (fun hlt => ?_) (fun _ => ?_)
        · have hlt' : i < (cells.length : Int) := by
            have := of_decide_eq_true hlt
            rw [List.length_map] at this
            exact this
          obtain ⟨j, rfl⟩ : ∃ j : Nat, i = (j : Int) := ⟨i.toNat, by omega⟩
          have hj : j < cells.length := by omega
          have hat : atI (cells.map V.int) (j : Int) = some (.int cells[j]) := atI_nat (by rw [List.getElem?_map, List.getElem?_eq_getElem hj]; rfl)
          refine ⟨_, rfl, _, _, _, _, rfl, rfl, .inl (.inl e1), rfl, _, rfl, _, _, _, _, rfl, rfl, .inl (.inl e1), rfl, c, _, _, _, rfl, rfl, .inl (.inl e2), hat, ?_⟩
          refine ⟨_, rfl, _, _, _, _, rfl, rfl, .inl (.inl e1), rfl, _, _, rfl, rfl, _, rfl, h, _, _, 1, rfl, rfl, e1, rfl, ?_⟩
          have e2' : upd H h (.lst [.ref c, .int ((j : Int) + 1), .int b, .int t]) c = some (.lst (cells.map V.int)) := by rw [upd_ne nch]; exact e2
          refine ⟨_, rfl, _, _, rfl, rfl, ⟨by decide, by decide, by decide⟩, _, _, rfl, rfl, _, rfl, ?_⟩
          refine ite2 (fun _ => ?_) (fun _ => ?_)
          · refine ⟨_, rfl, .inl ⟨_, rfl, _, _, rfl, rfl, (by show (0 : Int) < _; decide), _, rfl, _, _, _, _, rfl, rfl, .inl (.inl upd_same), rfl, ?_⟩⟩
            refine ⟨_, _, rfl, fun n => .inl ⟨_, rfl, _, rfl, _, _, rfl, rfl, hm0, ?_⟩⟩
            exact k _ _ (Int.emod_nonneg _ (by omega)) (Int.emod_lt_of_pos _ hm0) kh0 ⟨cells, _, _, _, upd_same, e2', nch, by omega, hlen⟩
          · refine ⟨_, rfl, _, rfl, h, _, _, 2, rfl, rfl, upd_same, rfl, ?_⟩
            rw [upd_upd]
            exact ⟨_, _, _, _, _, rfl, kh0, upd_same, by rw [upd_ne nch]; exact e2, by omega⟩
        · exact ⟨i, b, t, _, _, rfl, Kp.refl (fun a ha => by rw [ha]; exact ⟨_, e1⟩), e1, e2, hi⟩
      · exact ⟨i, b, t, _, _, rfl, Kp.refl (fun a ha => by rw [ha]; exact ⟨_, e1⟩), e1, e2, hi⟩
    · rintro σ' H' ⟨i, b, t, v2, v3, rfl, kh, e1, e2, hi⟩
      have kh1 : ∀ {ys : List V}, Kh h H (upd H' h (.lst ys)) := kh.trans (Kp.put (fun a ha => by rw [ha]; exact ⟨_, e1⟩) rfl)
      refine ⟨_, rfl, _, _, _, _, rfl, rfl, .inl (.inl e1), rfl, _, _, rfl, rfl, _, rfl, ?_⟩
      refine ite2 (fun _ => ?_) (fun _ => ?_)
      · refine ⟨_, rfl, _, _, _, _, rfl, rfl, .inl (.inl e1), rfl, _, rfl, _, rfl, _, _, rfl, rfl, big, _, rfl, h, _, _, 2, rfl, rfl, e1, rfl, ?_⟩
        refine ⟨_, rfl, .inl ⟨_, rfl, _, rfl, _, _, rfl, rfl, hm0, ?_⟩⟩
        exact k _ _ (Int.emod_nonneg _ (by omega)) (Int.emod_lt_of_pos _ hm0) kh1 ⟨cells, _, _, _, upd_same, by rw [upd_ne nch]; exact e2, nch, hi, hlen⟩
      · refine ⟨_, rfl, _, _, _, _, rfl, rfl, .inl (.inl e1), rfl, _, _, rfl, rfl, .inl ⟨_, rfl, _, _, rfl, rfl, (by show (0 : Int) < _; decide), _, rfl, h, _, _, 3, rfl, rfl, e1, rfl, ?_⟩⟩
        refine ⟨_, rfl, _, _, _, _, rfl, rfl, .inl (.inl upd_same), rfl, _, rfl, _, _, _, _, rfl, rfl, .inl (.inl upd_same), rfl, ?_⟩
        refine ⟨_, _, rfl, fun n => .inl ⟨_, rfl, _, rfl, _, _, rfl, rfl, hm0, ?_⟩⟩
        exact k _ _ (Int.emod_nonneg _ (by omega)) (Int.emod_lt_of_pos _ hm0) kh1 ⟨cells, _, _, _, upd_same, by rw [upd_ne nch]; exact e2, nch, hi, hlen⟩
end
section
variable {P : Program} {w : World} {K : PySem.W.Frag} {mg : Str → Option Value} {base : Heap}
abbrev s_l_pick : Stmt := top 18
abbrev N_l_pick : List Str := ["_law_hand_here", "_law_things"]
theorem sc_l_pick : FnScope N_l_pick ["_law_hand_here", "_law_things"] (defScope s_l_pick) := ⟨rfl, rfl, rfl, by decide +kernel, rfl, by decide +kernel, by decide +kernel⟩
theorem ok_pick (T : Txt mg) (c_l_draw : Cl P w K mg base 2 "_law_draw" spDraw) (D : At K mg "_law_pick" s_l_pick ["_law_hand_here", "_law_things"]) : Cl P w K mg base 3 "_law_pick" (spPick K) := by
  refine cl_of D sc_l_pick (fun vs H Q E h => ?_) fun f cdv A outer s H vs Q E hr h => ?_
  · obtain ⟨h, c, a, xs, rfl, _⟩ := h
    rfl
  · obtain ⟨h, c, a, xs, rfl, hh, hx, hne, hlen, k⟩ := h
    have hpos : 0 < xs.length := List.length_pos_iff.mpr hne
    refine ⟨_, (pss_one (ps_ret (pe_ix ix_seq (pv 1) (pe_c c_l_draw hr (by decide) (by rfl) (pa_cons (pv 0) (pa_cons (pe_callB call_len_seq (by rfl) T.len (by decide +kernel) (pa_cons (pv 1) pa_nil)) pa_nil))) (fun _ _ => rfl)))), ?_⟩
    refine ⟨_, rfl, _, rfl, _, rfl, a, xs, rfl, ?_, h, c, _, rfl, hh, by omega, Int.lt_of_le_of_lt (show (xs.length : Int) ≤ 1000 by omega) (by decide), fun n H1 h0 h1 kh hh1 => ?_⟩
    · rcases hx with hx | hx
      · exact .inl hx.1
      · exact .inr hx
    · obtain ⟨j, rfl⟩ : ∃ j : Nat, n = (j : Int) := ⟨n.toNat, by omega⟩
      have hj : j < xs.length := by omega
      have hat : atI xs (j : Int) = some xs[j] := atI_nat (List.getElem?_eq_getElem hj)
      rcases hx with ⟨hx, hn⟩ | hx
      · refine .inl ⟨a, xs, _, _, rfl, rfl, ?_, hat, k _ _ (List.getElem_mem hj) kh hh1⟩
        rcases hx with (q | ⟨o, q⟩) | q
        · exact .inl (.inl (kh.st _ _ hn q))
        · exact .inl (.inr ⟨o, kh.st _ _ hn q⟩)
        · exact .inr q
      · exact .inr (.inl ⟨a, xs, _, _, rfl, rfl, kh.tup hx, hat, k _ _ (List.getElem_mem hj) kh hh1⟩)
end
end K04

/-! a for over a list or a tuple, as one -/
namespace Cm
open PySem L2 PySem.Spec PyProof.Rows
theorem for_seq {K : PySem.W.Frag} {tl : TE} {g : TG} {tb : TS} {D : Ends} {σ : L2.St} {H Hb : Hp} {a : Addr} {xs : List V} (ht : ∀ Q : VK, Q (.ref a) H → tl σ H Q) (ha : SqL K Hb a xs ∨ SqT K Hb a xs)
    (Pv : Nat → L2.St → Hp → Prop) (h0 : Pv 0 σ H) (hG : ∀ i σ H', Pv i σ H' → Same Hb H')
    (hs : ∀ i x σ H1, i < xs.length → Pv i σ H1 → xs[i]? = some x → g x σ H1 fun σ2 H2 => tb { D with nx := Pv (i + 1), ct := Pv (i + 1), bk := D.nx } σ2 H2) (hd : ∀ σ H1, Pv xs.length σ H1 → D.nx σ H1) :
    tFor (iSeq K tl) g tb D σ H := by
  refine ht _ ⟨a, rfl, ?_⟩
  rcases ha with ha | ha
  · refine .inl ⟨⟨_, (hG _ _ _ h0).seq ha⟩, for_it (walk_list (xs := xs)) Pv h0 (fun i σ H' hi z => (hG i σ H' z).seq ha) (fun i x σ H1 H2 hi z y => ?_) hd⟩
    obtain ⟨rfl, e⟩ := y
    exact hs i x σ _ hi z e
  · refine .inr ⟨⟨_, sqt_same (hG _ _ _ h0) ha⟩, for_it (walk_tup (xs := xs)) Pv h0 (fun i σ H' hi z => sqt_same (hG i σ H' z) ha) (fun i x σ H1 H2 hi z y => ?_) hd⟩
    obtain ⟨rfl, e⟩ := y
    exact hs i x σ _ hi z e
end Cm

/-! trees of forms: a head and its parts; how they lie in tuples -/
namespace Cm
open PySem L2 PySem.Spec PyProof.Rows
inductive Hd where
  | num (i : Int)
  | name (x : Str)
  | lit (w : Str)
  | one (w x : Str)
  | fn (xs : List Str)
  | bind (w : Str) (xs : List Str)
  | doo
  | call
  | op (o : Str)
  | plain (w : Str)
inductive Tr where
  | mk (h : Hd) (ps : List Tr)
def encs (xs : List Str) : PyData := .tuple (xs.map PyData.str)
def rowD (p : Str × PyData) : PyData := .tuple [.str p.1, p.2]
def encH : Hd → List PyData → PyData
  | .num i, _ => .tuple [.str "number", .int i]
  | .name x, _ => .tuple [.str "name", .str x]
  | .lit w, _ => .tuple [.str w]
  | .one w x, ds => .tuple (.str w :: .str x :: ds)
  | .fn xs, ds => .tuple (.str "fn" :: encs xs :: ds)
  | .bind w xs, ds => .tuple (.str w :: .tuple ((xs.zip ds).map rowD) :: ds.drop xs.length)
  | .doo, ds => .tuple [.str "do", .tuple ds]
  | .call, ds => .tuple (.str "call" :: (ds.take 1 ++ [.tuple (ds.drop 1)]))
  | .op o, ds => .tuple [.str "op", .str o, .tuple ds]
  | .plain w, ds => .tuple (.str w :: ds)
mutual
def Tr.enc : Tr → PyData
  | .mk h ps => encH h (Tr.encL ps)
def Tr.encL : List Tr → List PyData
  | [] => []
  | t :: ts => t.enc :: Tr.encL ts
end
mutual
def Tr.dep : Tr → Nat
  | .mk _ ps => Tr.deps ps + 1
def Tr.deps : List Tr → Nat
  | [] => 0
  | t :: ts => max t.dep (Tr.deps ts)
end
def litW : List Str := ["true", "false", "none", "ask"]
def oneW : List Str := ["set", "keep", "once", "take"]
def bindW : List Str := ["let", "rec"]
def plainW : List Str := ["if", "mark", "wind", "show"]
abbrev sok (x : Str) : Prop := PyData.strOk x = true
def hok : Hd → Nat → Prop
  | .num _, n => n = 0
  | .name x, n => n = 0 ∧ sok x
  | .lit w, n => n = 0 ∧ w ∈ litW
  | .one w x, n => n = 1 ∧ w ∈ oneW ∧ sok x
  | .fn xs, n => n = 1 ∧ xs.length ≤ 100 ∧ ∀ x ∈ xs, sok x
  | .bind w xs, n => n = xs.length + 1 ∧ w ∈ bindW ∧ ∀ x ∈ xs, sok x
  | .doo, _ => True
  | .call, n => 1 ≤ n
  | .op o, _ => sok o
  | .plain w, _ => w ∈ plainW
mutual
def Tr.ok : Tr → Prop
  | .mk h ps => hok h ps.length ∧ ps.length ≤ 11 ∧ Tr.oks ps
def Tr.oks : List Tr → Prop
  | [] => True
  | t :: ts => t.ok ∧ Tr.oks ts
end
theorem encL_map : ∀ ps : List Tr, Tr.encL ps = ps.map Tr.enc
  | [] => rfl
  | t :: ts => by
    show t.enc :: Tr.encL ts = _
    rw [encL_map ts]
    rfl
theorem encL_len (ps : List Tr) : (Tr.encL ps).length = ps.length := by rw [encL_map, List.length_map]
theorem deps_le {n : Nat} : ∀ {ps : List Tr}, Tr.deps ps ≤ n ↔ ∀ t ∈ ps, t.dep ≤ n
  | [] => by simp [Tr.deps]
  | t :: ts => by
    have := deps_le (n := n) (ps := ts)
    show max t.dep (Tr.deps ts) ≤ n ↔ _
    rw [Nat.max_le, this]
    simp
theorem oks_iff : ∀ {ps : List Tr}, Tr.oks ps ↔ ∀ t ∈ ps, t.ok
  | [] => by simp [Tr.oks]
  | t :: ts => by
    show t.ok ∧ Tr.oks ts ↔ _
    rw [oks_iff]
    simp
theorem dep_mk {h : Hd} {ps : List Tr} {n : Nat} : (Tr.mk h ps).dep ≤ n + 1 ↔ ∀ t ∈ ps, t.dep ≤ n := by
  show Tr.deps ps + 1 ≤ n + 1 ↔ _
  rw [← deps_le]
  omega
/-- trees by their depth -/
theorem tr_ind {P : Tr → Prop} (h : ∀ hd ps, (∀ t ∈ ps, P t) → P (.mk hd ps)) (t : Tr) : P t := by
  have key : ∀ n, ∀ t : Tr, t.dep ≤ n → P t := by
    intro n
    induction n with
    | zero =>
      intro t ht
      cases t with
      | mk hd ps => exact absurd ht (by show ¬ (Tr.deps ps + 1 ≤ 0); omega)
    | succ n ih =>
      intro t ht
      cases t with
      | mk hd ps => exact h hd ps fun t m => ih t (dep_mk.mp ht t m)
  exact key t.dep t (Nat.le_refl _)
theorem flat_strs (xs : List Str) : flatDs (xs.map PyData.str) = true := flatDs_of _ fun d hd => by
  obtain ⟨x, _, rfl⟩ := List.mem_map.mp hd
  rfl
theorem flat_encH {h : Hd} {ds : List PyData} (f : flatDs ds = true) : flatD (encH h ds) = true := by
  have fd := flatDs_all f
  cases h with
  | num i => rfl
  | name x => rfl
  | lit w => rfl
  | one w x => show flatDs (_ :: _ :: ds) = true; simpa [flatDs, flatD] using f
  | fn xs => show flatDs (_ :: encs xs :: ds) = true; simp [flatDs, flatD, encs, flat_strs, f]
  | bind w xs =>
    show flatDs (_ :: _ :: ds.drop xs.length) = true
    have h1 : flatDs (ds.drop xs.length) = true := flatDs_of _ fun d hd => fd d (List.mem_of_mem_drop hd)
    have h2 : flatDs ((xs.zip ds).map rowD) = true := flatDs_of _ fun d hd => by
      obtain ⟨p, hp, rfl⟩ := List.mem_map.mp hd
      have := fd p.2 (List.of_mem_zip (show (p.1, p.2) ∈ xs.zip ds from hp)).2
      simp [rowD, flatD, flatDs, this]
    simp [flatDs, flatD, h1, h2]
  | doo => show flatDs [_, .tuple ds] = true; simp [flatDs, flatD, f]
  | call =>
    show flatDs (_ :: (ds.take 1 ++ [.tuple (ds.drop 1)])) = true
    refine flatDs_of _ fun d hd => ?_
    rcases List.mem_cons.mp hd with rfl | hd
    · rfl
    rcases List.mem_append.mp hd with hd | hd
    · exact fd d (List.mem_of_mem_take hd)
    · cases List.mem_singleton.mp hd
      show flatDs (ds.drop 1) = true
      exact flatDs_of _ fun d hd => fd d (List.mem_of_mem_drop hd)
  | op o => show flatDs [_, _, .tuple ds] = true; simp [flatDs, flatD, f]
  | plain w => show flatDs (_ :: ds) = true; simpa [flatDs, flatD] using f
theorem flat_enc (t : Tr) : flatD t.enc = true := by
  refine tr_ind (P := fun t => flatD t.enc = true) (fun hd ps ih => ?_) t
  show flatD (encH hd (Tr.encL ps)) = true
  refine flat_encH (flatDs_of _ fun d hd => ?_)
  rw [encL_map] at hd
  obtain ⟨t, m, rfl⟩ := List.mem_map.mp hd
  exact ih t m
theorem flat_encL (ps : List Tr) : flatDs (Tr.encL ps) = true := flatDs_of _ fun d hd => by
  rw [encL_map] at hd
  obtain ⟨t, m, rfl⟩ := List.mem_map.mp hd
  exact flat_enc t
/-! ### that trees can be compared -/
theorem layAll_of : ∀ {ds : List PyData}, (∀ d ∈ ds, PyData.canLay0 d = true) → PyData.canLayAll0 ds = true
  | [], _ => rfl
  | d :: ds, h => by
    show (PyData.canLay0 d && PyData.canLayAll0 ds) = true
    rw [h d List.mem_cons_self, layAll_of fun x hx => h x (List.mem_cons_of_mem _ hx)]
    rfl
theorem depAll_le {n : Nat} : ∀ {ds : List PyData}, (∀ d ∈ ds, d.depth ≤ n) → PyData.depthAll ds ≤ n
  | [], _ => by simp [PyData.depthAll]
  | d :: ds, h => by
    have h1 := h d List.mem_cons_self
    have h2 := depAll_le (ds := ds) fun x hx => h x (List.mem_cons_of_mem _ hx)
    simp only [PyData.depthAll]
    omega
theorem lay_tup {ds : List PyData} (h : ∀ d ∈ ds, PyData.canLay0 d = true) : PyData.canLay0 (.tuple ds) = true := layAll_of h
theorem dep_tup {ds : List PyData} {n : Nat} (h : ∀ d ∈ ds, d.depth ≤ n) : PyData.depth (.tuple ds) ≤ n + 1 := by
  have := depAll_le h
  simp only [PyData.depth]
  omega
theorem dep0_str (x : Str) (n : Nat) : PyData.depth (.str x) ≤ n := by simp [PyData.depth]
theorem dep0_int (x : Int) (n : Nat) : PyData.depth (.int x) ≤ n := by simp [PyData.depth]
/-- a text that may stand in data, and how deep data is -/
structure Lay (n : Nat) (d : PyData) : Prop where
  lay : PyData.canLay0 d = true
  dep : d.depth ≤ n
theorem Lay.mono {n m : Nat} {d : PyData} (h : Lay n d) (k : n ≤ m) : Lay m d := ⟨h.lay, Nat.le_trans h.dep k⟩
theorem Lay.str {x : Str} (h : sok x) (n : Nat) : Lay n (.str x) := ⟨h, dep0_str x n⟩
theorem Lay.int (i : Int) (n : Nat) : Lay n (.int i) := ⟨rfl, dep0_int i n⟩
theorem Lay.tup {n : Nat} {ds : List PyData} (h : ∀ d ∈ ds, Lay n d) : Lay (n + 1) (.tuple ds) := ⟨lay_tup fun d m => (h d m).lay, dep_tup fun d m => (h d m).dep⟩
theorem Lay.lst {n : Nat} {ds : List PyData} (h : ∀ d ∈ ds, Lay n d) : Lay (n + 1) (.list ds) := by
  have h1 : PyData.canLay0 (.list ds) = true := layAll_of fun d m => (h d m).lay
  have h2 := depAll_le fun d m => (h d m).dep
  refine ⟨h1, ?_⟩
  simp only [PyData.depth]
  omega
theorem Lay.sh {n : Nat} {d : PyData} (h : Lay n d) (k : n ≤ 64) : SeqAt.shaped d = true := by
  unfold SeqAt.shaped
  rw [h.lay, decide_eq_true (Nat.le_trans h.dep k)]
  rfl
theorem words_sok : ∀ w ∈ litW ++ oneW ++ bindW ++ plainW, sok w := by
  intro w hw
  unfold litW oneW bindW plainW at hw
  simp only [List.cons_append, List.nil_append, List.mem_cons, List.not_mem_nil, or_false] at hw
  rcases hw with rfl | rfl | rfl | rfl | rfl | rfl | rfl | rfl | rfl | rfl | rfl | rfl | rfl | rfl <;> decide +kernel
theorem mem4 {α : Type} {P : α → Prop} {a b c d : α} (ha : P a) (hb : P b) (hc : P c) (hd : P d) : ∀ x ∈ [a, b, c, d], P x := by
  intro x hx
  simp only [List.mem_cons, List.not_mem_nil, or_false] at hx
  rcases hx with rfl | rfl | rfl | rfl <;> assumption
theorem lay_strs {xs : List Str} (h : ∀ x ∈ xs, sok x) (n : Nat) : Lay (n + 1) (encs xs) := Lay.tup fun d hd => by
  obtain ⟨x, m, rfl⟩ := List.mem_map.mp hd
  exact .str (h x m) n
theorem lay_encH {h : Hd} {ds : List PyData} {n : Nat} (o : hok h ds.length) (f : ∀ d ∈ ds, Lay n d) : Lay (n + 3) (encH h ds) := by
  have up : ∀ d ∈ ds, Lay (n + 2) d := fun d m => (f d m).mono (by omega)
  have hw : ∀ w, (w ∈ litW ∨ w ∈ oneW ∨ w ∈ bindW ∨ w ∈ plainW) → Lay (n + 2) (.str w) := fun w m => .str (words_sok w (by
    simp only [List.mem_append]
    rcases m with m | m | m | m
    · exact .inl (.inl (.inl m))
    · exact .inl (.inl (.inr m))
    · exact .inl (.inr m)
    · exact .inr m)) _
  have c : ∀ {d : PyData} {ds : List PyData}, Lay (n + 2) d → (∀ e ∈ ds, Lay (n + 2) e) → ∀ e ∈ d :: ds, Lay (n + 2) e := fun a b e m => by
    rcases List.mem_cons.mp m with rfl | m
    · exact a
    · exact b e m
  have nil : ∀ e ∈ ([] : List PyData), Lay (n + 2) e := fun e m => by cases m
  have S : ∀ w : Str, sok w → Lay (n + 2) (.str w) := fun w h => .str h _
  cases h with
  | num i => exact .tup (c (S "number" (by decide +kernel)) (c (.int i _) nil))
  | name x => exact .tup (c (S "name" (by decide +kernel)) (c (S x o.2) nil))
  | lit w => exact .tup (c (hw w (.inl o.2)) nil)
  | one w x => exact .tup (c (hw w (.inr (.inl o.2.1))) (c (S x o.2.2) up))
  | fn xs => exact .tup (c (S "fn" (by decide +kernel)) (c (lay_strs o.2.2 (n + 1)) up))
  | bind w xs =>
    refine .tup (c (hw w (.inr (.inr (.inl o.2.1)))) (c (Lay.tup fun d hd => ?_) fun d hd => up d (List.mem_of_mem_drop hd)))
    obtain ⟨p, hp, rfl⟩ := List.mem_map.mp hd
    have hz := List.of_mem_zip (show (p.1, p.2) ∈ xs.zip ds from hp)
    refine Lay.tup fun d hd => ?_
    simp only [List.mem_cons, List.not_mem_nil, or_false] at hd
    rcases hd with rfl | rfl
    · exact .str (o.2.2 _ hz.1) _
    · exact f _ hz.2
  | doo => exact .tup (c (S "do" (by decide +kernel)) (c (Lay.tup (fun d m => (f d m).mono (by omega))) nil))
  | call =>
    refine .tup (c (S "call" (by decide +kernel)) fun d hd => ?_)
    rcases List.mem_append.mp hd with hd | hd
    · exact up d (List.mem_of_mem_take hd)
    · cases List.mem_singleton.mp hd
      exact Lay.tup fun d m => (f d (List.mem_of_mem_drop m)).mono (by omega)
  | op o' => exact .tup (c (S "op" (by decide +kernel)) (c (S o' o) (c (Lay.tup (fun d m => (f d m).mono (by omega))) nil)))
  | plain w => exact .tup (c (hw w (.inr (.inr (.inr o)))) up)
theorem lay_enc : ∀ (n : Nat) (t : Tr), t.ok → t.dep ≤ n → Lay (3 * n) t.enc := by
  intro n
  induction n with
  | zero =>
    intro t _ h
    cases t with
    | mk hd ps => exact absurd h (by show ¬ (Tr.deps ps + 1 ≤ 0); omega)
  | succ n ih =>
    intro t o h
    cases t with
    | mk hd ps =>
      have o' : hok hd ps.length ∧ ps.length ≤ 11 ∧ Tr.oks ps := o
      have : Lay (3 * n + 3) (encH hd (Tr.encL ps)) := lay_encH (by rw [encL_len]; exact o'.1) fun d hd => by
        rw [encL_map] at hd
        obtain ⟨t, m, rfl⟩ := List.mem_map.mp hd
        exact ih t (oks_iff.mp o'.2.2 t m) (dep_mk.mp h t m)
      exact this
end Cm

/-! x in (written words); the items of a tree's tuple -/
namespace Cm
open PySem L2 PySem.Spec PyProof.Rows
/-- written texts -/
inductive StrEs : List Expr → List Str → Prop where
  | nil : StrEs [] []
  | cons {x : Str} {k : Nat} {p : Pos} {es : List Expr} {xs : List Str} (h : StrEs es xs) : StrEs (.Constant (.str x) k p :: es) (x :: xs)
def tVals (vs : List V) : TA := fun _ H Q => Q vs H
section
variable {X : Cx} {e : Expr} {te : TE} {es : List Expr} {ws : List Str} {pos p2 : Pos} {n : Nat}
theorem pa_strs (h : StrEs es ws) : PA X es (tVals (ws.map V.str)) := by
  induction h with
  | nil => exact ⟨fun pos pins s σ H Q I h => pa_nil.run pos pins s σ H Q I h⟩
  | @cons x k p es xs h ih =>
    refine ⟨fun pos pins s σ H Q I q => (pa_cons (te := tC (.str x)) pe_str ih (by rfl)).run pos pins s σ H Q I ?_⟩
    exact q
/-- x in ('a', 'b', ..) -/
def tInW (te : TE) (ws : List Str) : TT := fun σ H Q => te σ H fun x H1 => flatV x = true ∧ ∀ H2, Same H1 H2 → Q (inV x (ws.map V.str)) H2
theorem flat_strV (ws : List Str) : (ws.map V.str).all flatV = true := by
  rw [List.all_eq_true]
  intro x hx
  obtain ⟨w, _, rfl⟩ := List.mem_map.mp hx
  rfl
theorem pt_inW (ha : PE X e te) (he : StrEs es ws) (hl : ws.length ≤ sizeLine) (hm : behindInMarks .In (.Tuple es n p2) = false) : PT X (.Compare e [.In] [.Tuple es n p2] pos) (tInW te ws) := by
  refine ⟨fun pins s σ H Q I h => ?_⟩
  refine wpAny_isTrue_Compare1 (thn (ha.run pins s σ H _ I h) fun v s1 ⟨x, H1, I1, r1, fx, q1⟩ => thn ((pe_tup (pa_strs he)).run pins s1 σ H1 (fun y H2 => y ≠ .non ∧ ∃ p, y = .ref p ∧ H2 p = some (.tup (ws.map V.str)) ∧ Same H1 H2) I1 ?_) fun u s2 ⟨y, H2, I2, r2, _, p, ey, hp, s12⟩ =>
    thn (op_in_seq pins s2 σ H2 x y v u (fun z H3 => ∃ k, z = .bl k ∧ Q k H3) I2 r1 r2 ⟨p, _, ey, .inr (.inl (.inl hp)), fx, flat_strV ws, _, rfl, q1 H2 s12⟩) fun c s3 ⟨z, H3, I3, r3, k, e, q3⟩ => ?_) hm
  · refine ⟨by rw [List.length_map]; exact hl, fun p hp => ⟨(fun z => nomatch z), p, rfl, upd_same, same_new hp⟩⟩
  · subst e
    cases r3
    exact wpAny_truthy_bool ⟨H3, I3, q3⟩
end
/-- x in ('a', ..) as a value -/
def tInWV (te : TE) (ws : List Str) : TE := fun σ H Q => te σ H fun x H1 => flatV x = true ∧ ∀ H2, Same H1 H2 → Q (.bl (inV x (ws.map V.str))) H2
section
variable {X : Cx} {e : Expr} {te : TE} {es : List Expr} {ws : List Str} {pos p2 : Pos} {n : Nat}
theorem pe_inW (ha : PE X e te) (he : StrEs es ws) (hl : ws.length ≤ sizeLine) (hm : behindInMarks .In (.Tuple es n p2) = false) : PE X (.Compare e [.In] [.Tuple es n p2] pos) (tInWV te ws) := by
  refine ⟨fun pins s σ H Q I h => ?_⟩
  refine wpAny_Compare1 (thn (ha.run pins s σ H _ I h) fun v s1 ⟨x, H1, I1, r1, fx, q1⟩ => thn ((pe_tup (pa_strs he)).run pins s1 σ H1 (fun y H2 => ∃ p, y = .ref p ∧ H2 p = some (.tup (ws.map V.str)) ∧ Same H1 H2) I1 ?_) fun u s2 ⟨y, H2, I2, r2, p, ey, hp, s12⟩ =>
    op_in_seq pins s2 σ H2 x y v u Q I2 r1 r2 ⟨p, _, ey, .inr (.inl (.inl hp)), fx, flat_strV ws, q1 H2 s12⟩) hm
  exact ⟨by rw [List.length_map]; exact hl, fun p hp => ⟨p, rfl, upd_same, same_new hp⟩⟩
end
/-! ### the items of a tree's tuple -/
def wd : Hd → Str
  | .num _ => "number"
  | .name _ => "name"
  | .lit w => w
  | .one w _ => w
  | .fn _ => "fn"
  | .bind w _ => w
  | .doo => "do"
  | .call => "call"
  | .op _ => "op"
  | .plain w => w
def Items (K : PySem.W.Frag) (H : Hp) (ds : List PyData) : Hd → List V → Prop
  | .num i, its => its = [.str "number", .int i]
  | .name x, its => its = [.str "name", .str x]
  | .lit w, its => its = [.str w]
  | .one w x, its => ∃ vs, its = .str w :: .str x :: vs ∧ DpAll K H vs ds
  | .fn xs, its => ∃ q vs, its = .str "fn" :: .ref q :: vs ∧ SqT K H q (xs.map V.str) ∧ DpAll K H vs ds
  | .bind w xs, its => ∃ q rows vs, its = .str w :: .ref q :: vs ∧ SqT K H q rows ∧ DpAll K H rows ((xs.zip ds).map rowD) ∧ DpAll K H vs (ds.drop xs.length)
  | .doo, its => ∃ q vs, its = [.str "do", .ref q] ∧ SqT K H q vs ∧ DpAll K H vs ds
  | .call, its => ∃ q us vs, its = .str "call" :: (us ++ [.ref q]) ∧ DpAll K H us (ds.take 1) ∧ SqT K H q vs ∧ DpAll K H vs (ds.drop 1)
  | .op o, its => ∃ q vs, its = [.str "op", .str o, .ref q] ∧ SqT K H q vs ∧ DpAll K H vs ds
  | .plain w, its => ∃ vs, its = .str w :: vs ∧ DpAll K H vs ds
theorem dp_str {K : PySem.W.Frag} {H : Hp} {v : V} {x : Str} (h : Dp K H v (.str x)) : v = .str x := by cases h; rfl
theorem dp_int {K : PySem.W.Frag} {H : Hp} {v : V} {x : Int} (h : Dp K H v (.int x)) : v = .int x := by cases h; rfl
theorem dp_tup {K : PySem.W.Frag} {H : Hp} {v : V} {ds : List PyData} (h : Dp K H v (.tuple ds)) : ∃ a its, v = .ref a ∧ SqT K H a its ∧ DpAll K H its ds := by
  cases h with
  | @tup a its ds hs ha => exact ⟨a, its, rfl, hs, ha⟩
theorem dpAll_strs_inv {K : PySem.W.Frag} {H : Hp} : ∀ {xs : List Str} {vs : List V}, DpAll K H vs (xs.map PyData.str) → vs = xs.map V.str
  | [], _, h => by cases h; rfl
  | x :: xs, _, h => by
    cases h with
    | cons h1 h2 => rw [dp_str h1, dpAll_strs_inv h2]; rfl
theorem dpAll_strs {K : PySem.W.Frag} {H : Hp} : ∀ xs : List Str, DpAll K H (xs.map V.str) (xs.map PyData.str)
  | [] => .nil
  | x :: xs => .cons (.str x) (dpAll_strs xs)
theorem dpAll_split {K : PySem.W.Frag} {H : Hp} : ∀ {ds es : List PyData} {vs : List V}, DpAll K H vs (ds ++ es) → ∃ us ws, vs = us ++ ws ∧ DpAll K H us ds ∧ DpAll K H ws es
  | [], es, vs, h => ⟨[], vs, rfl, .nil, h⟩
  | d :: ds, es, vs, h => by
    cases h with
    | cons h1 h2 =>
      obtain ⟨us, ws, rfl, a, b⟩ := dpAll_split h2
      exact ⟨_ :: us, ws, rfl, .cons h1 a, b⟩
theorem view {K : PySem.W.Frag} {H : Hp} {v : V} {h : Hd} {ds : List PyData} (x : Dp K H v (encH h ds)) : ∃ a its, v = .ref a ∧ SqT K H a its ∧ Items K H ds h its := by
  cases h with
  | num i =>
    obtain ⟨a, its, rfl, hs, ha⟩ := dp_tup x
    cases ha with
    | cons h1 h2 => cases h2 with
      | cons h3 h4 =>
        cases h4
        exact ⟨a, _, rfl, hs, by rw [dp_str h1, dp_int h3]; rfl⟩
  | name i =>
    obtain ⟨a, its, rfl, hs, ha⟩ := dp_tup x
    cases ha with
    | cons h1 h2 => cases h2 with
      | cons h3 h4 =>
        cases h4
        exact ⟨a, _, rfl, hs, by rw [dp_str h1, dp_str h3]; rfl⟩
  | lit i =>
    obtain ⟨a, its, rfl, hs, ha⟩ := dp_tup x
    cases ha with
    | cons h1 h2 =>
      cases h2
      exact ⟨a, _, rfl, hs, by rw [dp_str h1]; rfl⟩
  | one w i =>
    obtain ⟨a, its, rfl, hs, ha⟩ := dp_tup x
    cases ha with
    | cons h1 h2 => cases h2 with
      | cons h3 h4 => exact ⟨a, _, rfl, hs, _, by rw [dp_str h1, dp_str h3], h4⟩
  | fn xs =>
    obtain ⟨a, its, rfl, hs, ha⟩ := dp_tup x
    cases ha with
    | cons h1 h2 => cases h2 with
      | cons h3 h4 =>
        obtain ⟨q, vs, rfl, hq, hv⟩ := dp_tup h3
        rw [dpAll_strs_inv hv] at hq
        exact ⟨a, _, rfl, hs, q, _, by rw [dp_str h1], hq, h4⟩
  | bind w xs =>
    obtain ⟨a, its, rfl, hs, ha⟩ := dp_tup x
    cases ha with
    | cons h1 h2 => cases h2 with
      | cons h3 h4 =>
        obtain ⟨q, vs, rfl, hq, hv⟩ := dp_tup h3
        exact ⟨a, _, rfl, hs, q, vs, _, by rw [dp_str h1], hq, hv, h4⟩
  | doo =>
    obtain ⟨a, its, rfl, hs, ha⟩ := dp_tup x
    cases ha with
    | cons h1 h2 => cases h2 with
      | cons h3 h4 =>
        cases h4
        obtain ⟨q, vs, rfl, hq, hv⟩ := dp_tup h3
        exact ⟨a, _, rfl, hs, q, vs, by rw [dp_str h1], hq, hv⟩
  | call =>
    obtain ⟨a, its, rfl, hs, ha⟩ := dp_tup x
    cases ha with
    | cons h1 h2 =>
      obtain ⟨us, ws, rfl, h3, h4⟩ := dpAll_split h2
      cases h4 with
      | cons h5 h6 =>
        cases h6
        obtain ⟨q, vs, rfl, hq, hv⟩ := dp_tup h5
        exact ⟨a, _, rfl, hs, q, us, vs, by rw [dp_str h1], h3, hq, hv⟩
  | op o =>
    obtain ⟨a, its, rfl, hs, ha⟩ := dp_tup x
    cases ha with
    | cons h1 h2 => cases h2 with
      | cons h3 h4 => cases h4 with
        | cons h5 h6 =>
          cases h6
          obtain ⟨q, vs, rfl, hq, hv⟩ := dp_tup h5
          exact ⟨a, _, rfl, hs, q, vs, by rw [dp_str h1, dp_str h3], hq, hv⟩
  | plain w =>
    obtain ⟨a, its, rfl, hs, ha⟩ := dp_tup x
    cases ha with
    | cons h1 h2 => exact ⟨a, _, rfl, hs, _, by rw [dp_str h1], h2⟩
theorem unview {K : PySem.W.Frag} {H : Hp} {a : Addr} {its : List V} {h : Hd} {ds : List PyData} (hs : SqT K H a its) (x : Items K H ds h its) : Dp K H (.ref a) (encH h ds) := by
  cases h with
  | num i => obtain rfl := (show its = _ from x); exact .tup hs (.cons (.str _) (.cons (.int _) .nil))
  | name i => obtain rfl := (show its = _ from x); exact .tup hs (.cons (.str _) (.cons (.str _) .nil))
  | lit i => obtain rfl := (show its = _ from x); exact .tup hs (.cons (.str _) .nil)
  | one w i => obtain ⟨vs, rfl, hv⟩ := x; exact .tup hs (.cons (.str _) (.cons (.str _) hv))
  | fn xs => obtain ⟨q, vs, rfl, hq, hv⟩ := x; exact .tup hs (.cons (.str _) (.cons (.tup hq (dpAll_strs xs)) hv))
  | bind w xs => obtain ⟨q, rows, vs, rfl, hq, hr, hv⟩ := x; exact .tup hs (.cons (.str _) (.cons (.tup hq hr) hv))
  | doo => obtain ⟨q, vs, rfl, hq, hv⟩ := x; exact .tup hs (.cons (.str _) (.cons (.tup hq hv) .nil))
  | call => obtain ⟨q, us, vs, rfl, hu, hq, hv⟩ := x; exact .tup hs (.cons (.str _) (DpAll.app hu (.cons (.tup hq hv) .nil)))
  | op o => obtain ⟨q, vs, rfl, hq, hv⟩ := x; exact .tup hs (.cons (.str _) (.cons (.str _) (.cons (.tup hq hv) .nil)))
  | plain w => obtain ⟨vs, rfl, hv⟩ := x; exact .tup hs (.cons (.str _) hv)
theorem Items.head {K : PySem.W.Frag} {H : Hp} {h : Hd} {ds : List PyData} {its : List V} (x : Items K H ds h its) : atI its 0 = some (.str (wd h)) := by
  refine atI_nat (j := 0) ?_
  cases h with
  | num i => obtain rfl := (show its = _ from x); rfl
  | name i => obtain rfl := (show its = _ from x); rfl
  | lit i => obtain rfl := (show its = _ from x); rfl
  | one w i => obtain ⟨vs, rfl, _⟩ := x; rfl
  | fn xs => obtain ⟨q, vs, rfl, _⟩ := x; rfl
  | bind w xs => obtain ⟨q, rows, vs, rfl, _⟩ := x; rfl
  | doo => obtain ⟨q, vs, rfl, _⟩ := x; rfl
  | call => obtain ⟨q, us, vs, rfl, _⟩ := x; rfl
  | op o => obtain ⟨q, vs, rfl, _⟩ := x; rfl
  | plain w => obtain ⟨vs, rfl, _⟩ := x; rfl
theorem Items.same {K : PySem.W.Frag} {H H' : Hp} {h : Hd} {ds : List PyData} {its : List V} (x : Items K H ds h its) (s : Same H H') : Items K H' ds h its := by
  cases h with
  | num i => exact x
  | name i => exact x
  | lit i => exact x
  | one w i => obtain ⟨vs, e, hv⟩ := x; exact ⟨vs, e, dps_same s _ _ hv⟩
  | fn xs => obtain ⟨q, vs, e, hq, hv⟩ := x; exact ⟨q, vs, e, sqt_same s hq, dps_same s _ _ hv⟩
  | bind w xs => obtain ⟨q, rows, vs, e, hq, hr, hv⟩ := x; exact ⟨q, rows, vs, e, sqt_same s hq, dps_same s _ _ hr, dps_same s _ _ hv⟩
  | doo => obtain ⟨q, vs, e, hq, hv⟩ := x; exact ⟨q, vs, e, sqt_same s hq, dps_same s _ _ hv⟩
  | call => obtain ⟨q, us, vs, e, hu, hq, hv⟩ := x; exact ⟨q, us, vs, e, dps_same s _ _ hu, sqt_same s hq, dps_same s _ _ hv⟩
  | op o => obtain ⟨q, vs, e, hq, hv⟩ := x; exact ⟨q, vs, e, sqt_same s hq, dps_same s _ _ hv⟩
  | plain w => obtain ⟨vs, e, hv⟩ := x; exact ⟨vs, e, dps_same s _ _ hv⟩
/-! ### what the word of a head is -/
def kd : Hd → Nat
  | .num _ => 0
  | .name _ => 1
  | .lit _ => 2
  | .one _ _ => 3
  | .fn _ => 4
  | .bind _ _ => 5
  | .doo => 6
  | .call => 7
  | .op _ => 8
  | .plain _ => 9
def wordsOf : Nat → List Str
  | 0 => ["number"]
  | 1 => ["name"]
  | 2 => litW
  | 3 => oneW
  | 4 => ["fn"]
  | 5 => bindW
  | 6 => ["do"]
  | 7 => ["call"]
  | 8 => ["op"]
  | _ => plainW
theorem wd_mem {h : Hd} {n : Nat} (o : hok h n) : kd h < 10 ∧ wd h ∈ wordsOf (kd h) := by
  cases h with
  | num i => exact ⟨Nat.le_of_ble_eq_true rfl, List.mem_singleton.mpr rfl⟩
  | name i => exact ⟨Nat.le_of_ble_eq_true rfl, List.mem_singleton.mpr rfl⟩
  | lit w => exact ⟨Nat.le_of_ble_eq_true rfl, o.2⟩
  | one w x => exact ⟨Nat.le_of_ble_eq_true rfl, o.2.1⟩
  | fn xs => exact ⟨Nat.le_of_ble_eq_true rfl, List.mem_singleton.mpr rfl⟩
  | bind w xs => exact ⟨Nat.le_of_ble_eq_true rfl, o.2.1⟩
  | doo => exact ⟨Nat.le_of_ble_eq_true rfl, List.mem_singleton.mpr rfl⟩
  | call => exact ⟨Nat.le_of_ble_eq_true rfl, List.mem_singleton.mpr rfl⟩
  | op i => exact ⟨Nat.le_of_ble_eq_true rfl, List.mem_singleton.mpr rfl⟩
  | plain w => exact ⟨Nat.le_of_ble_eq_true rfl, o⟩
/-- what is asked of the word alone -/
theorem by_kind (p : Str → Bool) (k : Nat → Bool) (hc : ∀ c < 10, ∀ w ∈ wordsOf c, p w = k c) {h : Hd} {n : Nat} (o : hok h n) : p (wd h) = k (kd h) :=
  hc _ (wd_mem o).1 _ (wd_mem o).2
def kF (h : Hd) : Bool := kd h == 3 || kd h == 4
def kB (h : Hd) : Bool := kd h == 5
def kP (h : Hd) : Bool := kd h == 9
def kL (h : Hd) : Bool := kd h < 3
def isDo (h : Hd) : Bool := kd h == 6
def isCall (h : Hd) : Bool := kd h == 7
def isOp (h : Hd) : Bool := kd h == 8
theorem in_words {ws : List Str} {x : Str} : inV (.str x) (ws.map V.str) = decide (x ∈ ws) := by
  induction ws with
  | nil => rfl
  | cons w ws ih =>
    show (eqV (V.str w) (V.str x) || inV (.str x) (ws.map V.str)) = _
    rw [ih]
    have e : eqV (V.str w) (V.str x) = decide (x = w) := by
      show (w == x) = _
      by_cases q : x = w
      · rw [q]; simp
      · have : ¬ w = x := fun z => q z.symm
        simp [q, this]
    rw [e]
    by_cases q : x = w <;> simp [q]
section
variable {h : Hd} {n : Nat}
theorem in_F (o : hok h n) : inV (.str (wd h)) ((["fn", "set", "keep", "once", "take"] : List Str).map V.str) = kF h :=
  by_kind (fun w => inV (.str w) ((["fn", "set", "keep", "once", "take"] : List Str).map V.str)) (fun k => k == 3 || k == 4) (by decide +kernel) o
theorem in_B (o : hok h n) : inV (.str (wd h)) ((["let", "rec"] : List Str).map V.str) = kB h :=
  by_kind (fun w => inV (.str w) ((["let", "rec"] : List Str).map V.str)) (fun k => k == 5) (by decide +kernel) o
theorem in_P (o : hok h n) : inV (.str (wd h)) ((["if", "mark", "wind", "show"] : List Str).map V.str) = kP h :=
  by_kind (fun w => inV (.str w) ((["if", "mark", "wind", "show"] : List Str).map V.str)) (fun k => k == 9) (by decide +kernel) o
theorem in_L (o : hok h n) : inV (.str (wd h)) ((["number", "true", "false", "none", "name", "ask"] : List Str).map V.str) = kL h :=
  by_kind (fun w => inV (.str w) ((["number", "true", "false", "none", "name", "ask"] : List Str).map V.str)) (fun k => k < 3) (by decide +kernel) o
theorem eq_do (o : hok h n) : decide (V.str (wd h) = V.str "do") = isDo h := by
  rw [decS]
  exact by_kind (fun w => decide (w = "do")) (fun k => k == 6) (by decide +kernel) o
theorem eq_call (o : hok h n) : decide (V.str (wd h) = V.str "call") = isCall h := by
  rw [decS]
  exact by_kind (fun w => decide (w = "call")) (fun k => k == 7) (by decide +kernel) o
theorem eq_op (o : hok h n) : decide (V.str (wd h) = V.str "op") = isOp h := by
  rw [decS]
  exact by_kind (fun w => decide (w = "op")) (fun k => k == 8) (by decide +kernel) o
end
end Cm

/-! slices and sums of tuples whichever object they are; rules with K said -/
namespace Cm
open PySem L2 PySem.Spec PyProof.Rows
theorem cut_from {xs : List V} {k : Nat} (h : k ≤ xs.length) : cutV xs (some (k : Int)) Option.none = xs.drop k := by
  unfold cutV
  rw [HT.sIx_nat, HT.sIx_none, Nat.min_eq_left h]
  exact List.take_of_length_le (by rw [List.length_drop]; omega)
theorem cut_to {xs : List V} {k : Nat} (h : k ≤ xs.length) : cutV xs Option.none (some (k : Int)) = xs.take k := by
  unfold cutV
  rw [HT.sIx_nat, HT.sIx_none, Nat.min_eq_left h, List.drop_zero, Nat.sub_zero]
/-- t[k:] of a tuple: whichever object it is -/
theorem sl_from {K : PySem.W.Frag} {a : Addr} {xs : List V} {k : Nat} {σ : L2.St} {H : Hp} {Q : VK} (hs : SqT K H a xs) (hk : k ≤ xs.length) (h : ∀ t H', Same H H' → SqT K H' t (xs.drop k) → Q (.ref t) H') :
    (tNoPart σ H fun u H1 => rSlA K (.ref a) (some (k : Int)) u H1 Q) := by
  refine ⟨a, xs, rfl, hs, fun q => ?_, fun _ p hp => ?_⟩
  · rw [HT.sIx_nat, Nat.min_eq_left hk] at q
    have : k = 0 := q.1
    subst this
    exact h a H (Same.refl H) hs
  · rw [cut_from hk]
    exact h p _ (same_new hp) (.inl (.inl upd_same))
theorem sl_to {K : PySem.W.Frag} {a : Addr} {xs : List V} {k : Nat} {H : Hp} {Q : VK} (hs : SqT K H a xs) (hk : k ≤ xs.length) (h : ∀ t H', Same H H' → SqT K H' t (xs.take k) → Q (.ref t) H') :
    rSlA K (.ref a) Option.none (some (k : Int)) H Q := by
  refine ⟨a, xs, rfl, hs, fun q => ?_, fun _ p hp => ?_⟩
  · rw [HT.sIx_nat, Nat.min_eq_left hk] at q
    have e : xs.take k = xs := List.take_of_length_le (by rw [q.2]; exact Nat.le_refl _)
    refine h a H (Same.refl H) ?_
    rw [e]
    exact hs
  · rw [cut_to hk]
    exact h p _ (same_new hp) (.inl (.inl upd_same))
theorem cat_any {K : PySem.W.Frag} {a b : Addr} {xs ys : List V} {H : Hp} {Q : VK} (ha : SqT K H a xs) (hb : SqT K H b ys) (hl : xs.length + ys.length ≤ sizeLine)
    (h : ∀ t H', Same H H' → SqT K H' t (xs ++ ys) → Q (.ref t) H') : rCatA K (.ref a) (.ref b) H Q := by
  refine ⟨a, b, xs, ys, rfl, rfl, ha, hb, hl, fun e => ?_, fun _ e => ?_, fun _ _ p hp => h p _ (same_new hp) (.inl (.inl upd_same))⟩
  · exact h b H (Same.refl H) (by rw [e]; exact hb)
  · exact h a H (Same.refl H) (by rw [e, List.append_nil]; exact ha)
theorem range_map {α β : Type} (f : α → β) (l : List α) : (List.range l.length).filterMap (fun i => (l[i]?).map f) = l.map f := by
  induction l with
  | nil => rfl
  | cons a l ih =>
    rw [List.length_cons, List.range_succ_eq_map, List.filterMap_cons]
    simp only [List.getElem?_cons_zero, Option.map_some, List.filterMap_map]
    rw [List.map_cons, ← ih]
    congr 1
theorem ke_tupleOf {X : Cx} {K : PySem.W.Frag} {a : Expr} {ta : TE} {p pos : Pos} (hg : Gl X "tuple") (hm : X.mg "tuple" = none) (ha : PE X a ta) (h : X.K = K := by rfl) (na : starEach [a] X.env = (false, eval a X.env) :: starEach [] X.env := by rfl) :
    PE X (.Call (.Name "tuple" p) [a] [] pos) (tThen ta (kTup K)) := by
  subst h
  exact pe_tupleOf hg hm ha na
theorem ne_same' {d : PyData} (h : SeqAt.shaped d = true) : (!PyData.eqv d d) = false := by
  rw [SeqAt.eqv_refl d (SeqAt.canLay_of_shaped h)]
  rfl
theorem kc_isi {X : Cx} {K : PySem.W.Frag} (h : X.K = K := by rfl) : CallR X (.builtin "isinstance") (rIsi K) := by subst h; exact call_isi
theorem one_of {α : Type} {xs : List α} (h : xs.length = 1) : ∃ x, xs = [x] := by
  cases xs with
  | nil => simp at h
  | cons a r =>
    cases r with
    | nil => exact ⟨a, rfl⟩
    | cons b r => simp at h
theorem dpAll_one {K : PySem.W.Frag} {H : Hp} {vs : List V} {d : PyData} (h : DpAll K H vs [d]) : ∃ v, vs = [v] ∧ Dp K H v d := by
  cases h with
  | cons h1 h2 =>
    cases h2
    exact ⟨_, rfl, h1⟩
theorem dps_cat {K : PySem.W.Frag} {H : Hp} {ds es : List PyData} {vs us : List V} (h1 : DpAll K H vs ds) (h2 : DpAll K H us es) : DpAll K H (vs ++ us) (ds ++ es) := DpAll.app h1 h2
theorem free_of {H H' : Hp} {p : Addr} (s : Same H H') (h : H' p = Option.none) : H p = Option.none := by
  cases e : H p with
  | none => rfl
  | some o =>
    have := s _ _ e
    rw [h] at this
    cases this
end Cm

namespace K04
open PySem L2 Cm
/-- the parts of a form, as a tuple -/
def spParts (K : PySem.W.Frag) : Sp := fun vs H Q _ => ∃ (v : V) (h : Hd) (ds : List PyData), vs = [v] ∧ Dp K H v (encH h ds) ∧ hok h ds.length ∧ flatDs ds = true ∧ ds.length ≤ 100 ∧
  ∀ (t : Addr) (us : List V) (H' : Hp), Same H H' → SqT K H' t us → DpAll K H' us ds → Q (.ref t) H'
section
variable {P : Program} {w : World} {K : PySem.W.Frag} {mg : Str → Option Value} {base : Heap}
abbrev s_p_parts_of : Stmt := top 1
abbrev N_p_parts_of : List Str := ["tree", "word", "_", "side"]
theorem sc_p_parts_of : FnScope N_p_parts_of ["tree"] (defScope s_p_parts_of) := ⟨rfl, rfl, rfl, by decide +kernel, rfl, by decide +kernel, by decide +kernel⟩
theorem ok_parts_of (T : Txt mg) (D : At K mg "parts_of" s_p_parts_of ["tree"]) : Cl P w K mg base 1 "parts_of" (spParts K) := by
  refine cl_of D sc_p_parts_of (fun vs H Q E h => ?_) fun f cdv A outer s H vs Q E hr h => ?_
  · obtain ⟨v, h, ds, rfl, _⟩ := h
    rfl
  · obtain ⟨v, h, ds, rfl, hd, o, fl, hlen, k⟩ := h
    obtain ⟨a, its, rfl, hs, hx⟩ := view hd
    refine ⟨_, (pss_cons (ps_set (i := 1) sc_p_parts_of.nd rfl (Or.inl rfl) (pe_ix ix_tup (pv 0) pe_int (fun _ _ => rfl)))
      (pss_cons (ps_if (pt_inW (pv 1) (.cons (.cons (.cons (.cons (.cons .nil))))) (show 5 ≤ sizeLine by decide) (by rfl))
        (pss_one (ps_ret (pe_tup (pa_cons (pe_ix ix_tup (pv 0) pe_int (fun _ _ => rfl)) pa_nil))))
        pss_nil)
      (pss_cons (ps_if (pt_inW (pv 1) (.cons (.cons .nil)) (show 2 ≤ sizeLine by decide) (by rfl))
        (pss_one (ps_ret (pe_op op_catA (pe_tupleOf (by rfl) T.tuple (pe_lc (own := [("_", 2), ("side", 3)]) (g := gTup K 2 (gCons (gName 2) (gCons (gName 3) gNil))) rfl sc_p_parts_of.nd (pi_tup (pe_ix ix_tup (pv 0) pe_int (fun _ _ => rfl))) (blkOk_by (N := N_p_parts_of) (sc := defScope s_p_parts_of) (by decide +kernel))
      (fun _ _ _ _ _ => (pg_tup rfl (pgs_cons (pg_name (i := 2) sc_p_parts_of.nd rfl (Or.inl rfl)) (pgs_cons (pg_name (i := 3) sc_p_parts_of.nd rfl (Or.inl rfl)) pgs_nil))))
      (fun _ _ _ _ _ => pts_nil)
      (fun _ _ _ _ _ => (pv 3)))) (pe_tup (pa_cons (pe_ix ix_tup (pv 0) pe_int (fun _ _ => rfl)) pa_nil)))))
        pss_nil)
      (pss_cons (ps_if (pt_cmpR op_eq (pv 1) pe_str (nomark _))
        (pss_one (ps_ret (pe_tupleOf (by rfl) T.tuple (pe_ix ix_tup (pv 0) pe_int (fun _ _ => rfl)))))
        pss_nil)
      (pss_cons (ps_if (pt_cmpR op_eq (pv 1) pe_str (nomark _))
        (pss_one (ps_ret (pe_op op_catA (pe_tup (pa_cons (pe_ix ix_tup (pv 0) pe_int (fun _ _ => rfl)) pa_nil)) (pe_tupleOf (by rfl) T.tuple (pe_ix ix_tup (pv 0) pe_int (fun _ _ => rfl))))))
        pss_nil)
      (pss_cons (ps_if (pt_cmpR op_eq (pv 1) pe_str (nomark _))
        (pss_one (ps_ret (pe_tupleOf (by rfl) T.tuple (pe_ix ix_tup (pv 0) pe_int (fun _ _ => rfl)))))
        pss_nil)
      (pss_cons (ps_if (pt_inW (pv 1) (.cons (.cons (.cons (.cons .nil)))) (show 4 ≤ sizeLine by decide) (by rfl))
        (pss_one (ps_ret (pe_tupleOf (by rfl) T.tuple (pe_slice sl_tupA (pv 0) (po_some pe_int) po_none))))
        pss_nil)
      (pss_one (ps_ret (pe_tup pa_nil)))))))))), ?_⟩
    have hhd := hx.head
    refine ⟨_, rfl, a, its, _, _, rfl, rfl, hs, hhd, ?_⟩
    refine ⟨_, rfl, rfl, fun H1 s1 => ?_⟩
    rw [in_F o]
    cases eF : kF h with
    | true =>
      refine iteT ?_
      have hx1 := hx.same s1
      have hs1 := sqt_same s1 hs
      obtain ⟨v2, d, rfl, e2, hv2⟩ : ∃ v2 d, ds = [d] ∧ atI its 2 = some v2 ∧ Dp K H1 v2 d := by
        cases h with
        | fn xs =>
          obtain ⟨d, rfl⟩ := one_of o.1
          obtain ⟨q, vs, rfl, _, hv⟩ := hx1
          obtain ⟨v, rfl, hv'⟩ := dpAll_one hv
          exact ⟨v, d, rfl, atI_nat (j := 2) rfl, hv'⟩
        | one w x =>
          obtain ⟨d, rfl⟩ := one_of o.1
          obtain ⟨vs, rfl, hv⟩ := hx1
          obtain ⟨v, rfl, hv'⟩ := dpAll_one hv
          exact ⟨v, d, rfl, atI_nat (j := 2) rfl, hv'⟩
        | _ => cases eF
      refine ⟨_, rfl, a, _, _, _, rfl, rfl, hs1, e2, by show 1 ≤ sizeLine; decide, fun q hq => ?_⟩
      exact k q _ _ (s1.trans (same_new hq)) (.inl (.inl upd_same)) (.cons (dp_same (same_new hq) _ _ hv2) .nil)
    | false =>
      refine iteF ?_
      refine ⟨_, rfl, rfl, fun H2 s2 => ?_⟩
      have S2 := s1.trans s2
      rw [in_B o]
      cases eB : kB h with
      | true =>
        refine iteT ?_
        have hx2 := hx.same S2
        have hs2 := sqt_same S2 hs
        cases h with
        | bind w xs =>
          obtain ⟨q, rows, vs, rfl, hq, hrows, hv⟩ := hx2
          have hdl : ds.length = xs.length + 1 := o.1
          have hrl : rows.length = xs.length := by
            have := DpAll.len hrows
            rw [List.length_map, List.length_zip] at this
            omega
          refine ⟨_, rfl, a, _, _, _, rfl, rfl, hs2, atI_nat (j := 1) rfl, q, rfl, ⟨_, hq⟩, fun L hL => ?_⟩
          refine lc_data (K := K) (walk_tup (xs := rows)) (fun i => ((ds.take xs.length)[i]?).map id) hL (by omega) (fun H' s => sqt_same s hq) (fun i _ d e => ?_) ?_ ?_
          · obtain ⟨d', e', rfl⟩ := Option.map_eq_some_iff.mp e
            exact flatDs_all fl _ (List.mem_of_mem_take (List.mem_of_getElem? e'))
          · rintro i x H3 H4 hi s3 ⟨rfl, e2⟩ Q1 Q0 q1 q0
            obtain ⟨d, g1, g2⟩ := DpAll.atV hrows e2
            obtain ⟨p, ep, rfl⟩ := map_at g1
            obtain ⟨r, its3, rfl, hr3, hi3⟩ := dp_tup (dp_same s3 _ _ g2)
            cases hi3 with
            | cons h1 h2 =>
              obtain ⟨v, rfl, h3⟩ := dpAll_one h2
              refine ⟨r, _, rfl, hr3, rfl, _, _, rfl, _, _, rfl, rfl, rfl, ?_⟩
              refine ⟨_, rfl, q1 _ _ p.2 ?_ (Same.refl _) h3⟩
              have := List.getElem?_zip_eq_some.mp ep
              rw [List.getElem?_take_of_lt (by omega), this.2]
              rfl
          · intro H3 acc s3 hacc ha3
            rw [show rows.length = (ds.take xs.length).length by rw [List.length_take]; omega, range_map, List.map_id] at ha3
            refine .inl ⟨L, _, rfl, .inl (.inl hacc), fun t3 ht3 => ?_⟩
            have s4 := same_new (o := .tup acc) ht3
            obtain ⟨dl, edl⟩ := one_of (show (ds.drop xs.length).length = 1 by rw [List.length_drop]; omega)
            rw [edl] at hv
            obtain ⟨vl, rfl, hvl⟩ := dpAll_one hv
            have s34 := s3.trans s4
            refine ⟨_, rfl, a, _, _, _, rfl, rfl, sqt_same s34 hs2, atI_nat (j := 2) rfl, by show 1 ≤ sizeLine; decide, fun t5 ht5 => ?_⟩
            have s5 := same_new (o := .tup [vl]) ht5
            have hl3 := DpAll.len ha3
            rw [List.length_take] at hl3
            refine cat_any (sqt_same s5 (.inl (.inl upd_same))) (.inl (.inl upd_same)) (Nat.le_trans (show acc.length + 1 ≤ 200 by omega) (by decide)) fun t6 H6 s6 ht6 => ?_
            refine k t6 _ H6 ((S2.trans s34).trans (s5.trans s6)) ht6 ?_
            have h7 : DpAll K H6 (acc ++ [vl]) (ds.take xs.length ++ [dl]) := DpAll.app (dps_same (s4.trans (s5.trans s6)) _ _ ha3) (.cons (dp_same (s34.trans (s5.trans s6)) _ _ hvl) .nil)
            rw [← edl, List.take_append_drop] at h7
            exact h7
        | _ => cases eB
      | false =>
        refine iteF ?_
        refine ⟨_, rfl, rfl, _, rfl, ?_⟩
        rw [eq_do o]
        cases eD : isDo h with
        | true =>
          refine iteT ?_
          have hx2 := hx.same S2
          cases h with
          | doo =>
            obtain ⟨q, vs, rfl, hq, hv⟩ := hx2
            refine ⟨_, rfl, a, _, _, _, rfl, rfl, sqt_same S2 hs, atI_nat (j := 1) rfl, .inr ⟨q, _, rfl, hq, ?_⟩⟩
            exact k q vs _ S2 hq hv
          | _ => cases eD
        | false =>
          refine iteF ?_
          refine ⟨_, rfl, rfl, _, rfl, ?_⟩
          rw [eq_call o]
          cases eC : isCall h with
          | true =>
            refine iteT ?_
            have hx2 := hx.same S2
            cases h with
            | call =>
              obtain ⟨q, us, vs, rfl, hu, hq, hv⟩ := hx2
              have hdl : 1 ≤ ds.length := o
              obtain ⟨d0, e0⟩ := one_of (show (ds.take 1).length = 1 by rw [List.length_take]; omega)
              rw [e0] at hu
              obtain ⟨u0, rfl, hu0⟩ := dpAll_one hu
              refine ⟨_, rfl, a, _, _, _, rfl, rfl, sqt_same S2 hs, atI_nat (j := 1) rfl, by show 1 ≤ sizeLine; decide, fun t3 ht3 => ?_⟩
              have s3 := same_new (o := .tup [u0]) ht3
              refine ⟨_, rfl, a, _, _, _, rfl, rfl, sqt_same (S2.trans s3) hs, atI_nat (j := 2) rfl, .inr ⟨q, _, rfl, sqt_same s3 hq, ?_⟩⟩
              have hvl := DpAll.len hv
              rw [List.length_drop] at hvl
              refine cat_any (.inl (.inl upd_same)) (sqt_same s3 hq) (Nat.le_trans (show 1 + vs.length ≤ 200 by omega) (by decide)) fun t4 H4 s4 ht4 => ?_
              refine k t4 _ H4 (S2.trans (s3.trans s4)) ht4 ?_
              have h7 : DpAll K H4 ([u0] ++ vs) ([d0] ++ ds.drop 1) := DpAll.app (.cons (dp_same (s3.trans s4) _ _ hu0) .nil) (dps_same (s3.trans s4) _ _ hv)
              rw [← e0, List.take_append_drop] at h7
              exact h7
            | _ => cases eC
          | false =>
            refine iteF ?_
            refine ⟨_, rfl, rfl, _, rfl, ?_⟩
            rw [eq_op o]
            cases eO : isOp h with
            | true =>
              refine iteT ?_
              have hx2 := hx.same S2
              cases h with
              | op o' =>
                obtain ⟨q, vs, rfl, hq, hv⟩ := hx2
                refine ⟨_, rfl, a, _, _, _, rfl, rfl, sqt_same S2 hs, atI_nat (j := 2) rfl, .inr ⟨q, _, rfl, hq, ?_⟩⟩
                exact k q vs _ S2 hq hv
              | _ => cases eO
            | false =>
              refine iteF ?_
              refine ⟨_, rfl, rfl, fun H3 s3 => ?_⟩
              have S3 := S2.trans s3
              rw [in_P o]
              cases eP : kP h with
              | true =>
                refine iteT ?_
                have hx3 := hx.same S3
                cases h with
                | plain w =>
                  obtain ⟨vs, rfl, hv⟩ := hx3
                  refine ⟨_, rfl, 1, rfl, ?_⟩
                  refine sl_from (k := 1) (sqt_same S3 hs) (by rw [List.length_cons]; omega) fun t4 H4 s4 ht4 => ?_
                  refine .inr ⟨t4, _, rfl, ht4, ?_⟩
                  exact k t4 vs _ (S3.trans s4) ht4 (dps_same s4 _ _ hv)
                | _ => cases eP
              | false =>
                refine iteF ?_
                refine ⟨by show 0 ≤ sizeLine; decide, fun t4 ht4 => ?_⟩
                have e0 : ds = [] := by
                  cases h with
                  | num i => exact List.length_eq_zero_iff.mp o
                  | name i => exact List.length_eq_zero_iff.mp o.1
                  | lit i => exact List.length_eq_zero_iff.mp o.1
                  | one _ _ => cases eF
                  | fn _ => cases eF
                  | bind _ _ => cases eB
                  | doo => cases eD
                  | call => cases eC
                  | op _ => cases eO
                  | plain _ => cases eP
                subst e0
                exact k t4 [] _ (S3.trans (same_new ht4)) (.inl (.inl upd_same)) .nil
end
end K04

namespace K04
open PySem L2 Cm
/-- a form with other parts -/
def spWith (K : PySem.W.Frag) : Sp := fun vs H Q _ => ∃ (v : V) (b : Addr) (h : Hd) (ds0 ds : List PyData) (us : List V), vs = [v, .ref b] ∧ Dp K H v (encH h ds0) ∧ hok h ds0.length ∧ ds.length = ds0.length ∧ ds.length ≤ 100 ∧ flatDs ds = true ∧
  (SqL K H b us ∨ SqT K H b us) ∧ DpAll K H us ds ∧ ∀ (r : V) (H' : Hp), Same H H' → Dp K H' r (encH h ds) → Q r H'
theorem zip_rows {xs : List Str} {ds : List PyData} (hl : ds.length = xs.length + 1) {i : Nat} {x : Str} {d : PyData} (e1 : xs[i]? = some x) (e2 : ds[i]? = some d) : ((xs.zip ds)[i]?).map rowD = some (rowD (x, d)) := by
  rw [(List.getElem?_zip_eq_some (z := (x, d))).mpr ⟨e1, e2⟩]
  rfl
section
variable {P : Program} {w : World} {K : PySem.W.Frag} {mg : Str → Option Value} {base : Heap}
abbrev s_p_with_parts : Stmt := top 2
abbrev N_p_with_parts : List Str := ["tree", "parts", "word", "rows", "row", "side"]
theorem sc_p_with_parts : FnScope N_p_with_parts ["tree", "parts"] (defScope s_p_with_parts) := ⟨rfl, rfl, rfl, by decide +kernel, rfl, by decide +kernel, by decide +kernel⟩
theorem ok_with_parts (T : Txt mg) (D : At K mg "with_parts" s_p_with_parts ["tree", "parts"]) : Cl P w K mg base 1 "with_parts" (spWith K) := by
  refine cl_of D sc_p_with_parts (fun vs H Q E h => ?_) fun f cdv A outer s H vs Q E hr h => ?_
  · obtain ⟨v, b, h, ds0, ds, us, rfl, _⟩ := h
    rfl
  · obtain ⟨v, b, h, ds0, ds, us, rfl, hd, o, hln, hlen, fl, hb, hu, k⟩ := h
    obtain ⟨a, its, rfl, hs, hx⟩ := view hd
    refine ⟨_, (pss_cons (ps_set (i := 2) sc_p_with_parts.nd rfl (Or.inl rfl) (pe_ix ix_tup (pv 0) pe_int (fun _ _ => rfl)))
      (pss_mid (ps_set (i := 1) sc_p_with_parts.nd rfl (Or.inl rfl) (pe_tupleOf (by rfl) T.tuple (pv 1)))
      (pss_cons (ps_if (pt_inW (pv 2) (.cons (.cons (.cons (.cons (.cons .nil))))) (show 5 ≤ sizeLine by decide) (by rfl))
        (pss_one (ps_ret (pe_tup (pa_cons (pv 2) (pa_cons (pe_ix ix_tup (pv 0) pe_int (fun _ _ => rfl)) (pa_cons (pe_ix ix_tup (pv 1) pe_int (fun _ _ => rfl)) pa_nil))))))
        pss_nil)
      (pss_cons (ps_if (pt_inW (pv 2) (.cons (.cons .nil)) (show 2 ≤ sizeLine by decide) (by rfl))
        (pss_cons (ps_set (i := 3) sc_p_with_parts.nd rfl (Or.inl rfl) (pe_tupleOf (by rfl) T.tuple (pe_lc (own := [("row", 4), ("side", 5)]) (g := gTup K 2 (gCons (gName 4) (gCons (gName 5) gNil))) rfl sc_p_with_parts.nd (RZ.pi_zipA (by rfl) T.zip (pa_cons (pe_ix ix_tup (pv 0) pe_int (fun _ _ => rfl)) (pa_cons (pv 1) pa_nil))) (blkOk_by (N := N_p_with_parts) (sc := defScope s_p_with_parts) (by decide +kernel))
      (fun _ _ _ _ _ => (pg_tup rfl (pgs_cons (pg_name (i := 4) sc_p_with_parts.nd rfl (Or.inl rfl)) (pgs_cons (pg_name (i := 5) sc_p_with_parts.nd rfl (Or.inl rfl)) pgs_nil))))
      (fun _ _ _ _ _ => pts_nil)
      (fun _ _ _ _ _ => (pe_tup (pa_cons (pe_ix (kx_tup (K := K)) (pv 4) pe_int (fun _ _ => rfl)) (pa_cons (pv 5) pa_nil)))))))
        (pss_one (ps_ret (pe_tup (pa_cons (pv 2) (pa_cons (pv 3) (pa_cons (pe_ix ix_tup (pv 1) (pe_un un_neg pe_int) (fun _ _ => rfl)) pa_nil)))))))
        pss_nil)
      (pss_cons (ps_if (pt_cmpR op_eq (pv 2) pe_str (nomark _))
        (pss_one (ps_ret (pe_tup (pa_cons (pv 2) (pa_cons (pv 1) pa_nil)))))
        pss_nil)
      (pss_cons (ps_if (pt_cmpR op_eq (pv 2) pe_str (nomark _))
        (pss_one (ps_ret (pe_tup (pa_cons (pv 2) (pa_cons (pe_ix ix_tup (pv 1) pe_int (fun _ _ => rfl)) (pa_cons (pe_slice sl_tupA (pv 1) (po_some pe_int) po_none) pa_nil))))))
        pss_nil)
      (pss_cons (ps_if (pt_cmpR op_eq (pv 2) pe_str (nomark _))
        (pss_one (ps_ret (pe_tup (pa_cons (pv 2) (pa_cons (pe_ix ix_tup (pv 0) pe_int (fun _ _ => rfl)) (pa_cons (pv 1) pa_nil))))))
        pss_nil)
      (pss_cons (ps_if (pt_inW (pv 2) (.cons (.cons (.cons (.cons .nil)))) (show 4 ≤ sizeLine by decide) (by rfl))
        (pss_one (ps_ret (pe_op op_catA (pe_tup (pa_cons (pv 2) pa_nil)) (pv 1))))
        pss_nil)
      (pss_one (ps_ret (pv 0))))))))))), ?_⟩
    have hhd := hx.head
    refine ⟨_, rfl, a, its, _, _, rfl, rfl, hs, hhd, ?_⟩
    refine ⟨fun σ' H' => ∃ b' : Addr, σ' = [some (.ref a), some (.ref b'), some (.str (wd h)), none, none, none] ∧ Same H H' ∧ SqT K H' b' us ∧ DpAll K H' us ds, ?_, ?_⟩
    · rcases hb with hb | hb
      · exact ⟨_, rfl, .inl ⟨b, _, rfl, hb, fun q hq => ⟨q, rfl, same_new hq, .inl (.inl upd_same), dps_same (same_new hq) _ _ hu⟩⟩⟩
      · exact ⟨_, rfl, .inr ⟨b, _, rfl, hb, ⟨b, rfl, Same.refl _, hb, hu⟩⟩⟩
    clear hb hu
    rintro σ' H0 ⟨b, rfl, s0, hb, hu⟩
    refine ⟨_, rfl, rfl, fun H1 s01 => ?_⟩
    have s1 := s0.trans s01
    rw [in_F o]
    cases eF : kF h with
    | true =>
      refine iteT ?_
      have hx1 := hx.same s1
      have hs1 := sqt_same s1 hs
      have hb1 := sqt_same s01 hb
      have hu1 := dps_same s01 _ _ hu
      cases h with
      | fn xs =>
        obtain ⟨d, rfl⟩ := one_of (show ds.length = 1 by rw [hln]; exact o.1)
        obtain ⟨q, vs, rfl, hq, hv⟩ := hx1
        obtain ⟨v, rfl, hv'⟩ := dpAll_one hu1
        refine ⟨_, rfl, _, rfl, a, _, _, _, rfl, rfl, hs1, atI_nat (j := 1) rfl, _, rfl, b, _, _, _, rfl, rfl, hb1, atI_nat (j := 0) rfl, by show 3 ≤ sizeLine; decide, fun t ht => ?_⟩
        have s2 := same_new (o := .tup [.str (wd (.fn xs)), .ref q, v]) ht
        exact k _ _ (s1.trans s2) (unview (h := .fn xs) (.inl (.inl upd_same)) ⟨q, [v], rfl, sqt_same s2 hq, dps_same s2 _ _ hu1⟩)
      | one w x =>
        obtain ⟨d, rfl⟩ := one_of (show ds.length = 1 by rw [hln]; exact o.1)
        obtain ⟨vs, rfl, hv⟩ := hx1
        obtain ⟨v, rfl, hv'⟩ := dpAll_one hu1
        refine ⟨_, rfl, _, rfl, a, _, _, _, rfl, rfl, hs1, atI_nat (j := 1) rfl, _, rfl, b, _, _, _, rfl, rfl, hb1, atI_nat (j := 0) rfl, by show 3 ≤ sizeLine; decide, fun t ht => ?_⟩
        have s2 := same_new (o := .tup [.str (wd (.one w x)), .str x, v]) ht
        exact k _ _ (s1.trans s2) (unview (h := .one w x) (.inl (.inl upd_same)) ⟨[v], rfl, dps_same s2 _ _ hu1⟩)
      | _ => cases eF
    | false =>
      refine iteF ?_
      refine ⟨_, rfl, rfl, fun H2 s12 => ?_⟩
      have s02 := s01.trans s12
      have S2 := s1.trans s12
      have hb2 := sqt_same s02 hb
      have hu2 := dps_same s02 _ _ hu
      rw [in_B o]
      cases eB : kB h with
      | true =>
        refine iteT ?_
        have hx2 := hx.same S2
        have hs2 := sqt_same S2 hs
        cases h with
        | bind w xs =>
          obtain ⟨q, rows, vs, rfl, hq, hrows, hv⟩ := hx2
          have hdl0 : ds0.length = xs.length + 1 := o.1
          have hdl : ds.length = xs.length + 1 := by rw [hln]; exact hdl0
          have hrl : rows.length = xs.length := by
            have := DpAll.len hrows
            rw [List.length_map, List.length_zip] at this
            omega
          have hul := DpAll.len hu2
          refine ⟨_, rfl, a, _, _, _, rfl, rfl, hs2, atI_nat (j := 1) rfl, _, rfl, q, b, rows, us, rfl, .inr ⟨hq, hb2, fun L hL => ?_⟩⟩
          refine lc_data (K := K) (walk_zipT (xs := rows) (ys := us) (n := (xs.zip ds).length) (by rw [List.length_zip]; omega)) (fun i => ((xs.zip ds)[i]?).map rowD) hL (by rw [List.length_zip]; omega) (fun H' s => ⟨sqt_same s hq, sqt_same s hb2⟩) (fun i _ d e => ?_) ?_ ?_
          · obtain ⟨p, e', rfl⟩ := Option.map_eq_some_iff.mp e
            have := (List.getElem?_zip_eq_some.mp e').2
            have f2 := flatDs_all fl _ (List.mem_of_getElem? this)
            simp [rowD, flatD, flatDs, f2]
          · rintro i x H3 H4 hi s3 ⟨T1, x1, x2, rfl, hT, rfl, e1, e2⟩ Q1 Q0 q1 q0
            have sT := same_new (o := .tup [x1, x2]) hT
            obtain ⟨d, g1, g2⟩ := DpAll.atV hrows e1
            obtain ⟨p, ep, rfl⟩ := map_at g1
            obtain ⟨r, its3, rfl, hr3, hi3⟩ := dp_tup (dp_same (s3.trans sT) _ _ g2)
            obtain ⟨d2, g3, g4⟩ := DpAll.atV hu2 e2
            cases hi3 with
            | cons h1 h2 =>
              have e1s := dp_str h1
              subst e1s
              refine ⟨T1, _, rfl, .inl (.inl upd_same), rfl, _, _, rfl, _, _, rfl, rfl, rfl, ?_⟩
              refine ⟨_, rfl, r, _, _, _, rfl, rfl, hr3, atI_nat (j := 0) rfl, _, rfl, by show 2 ≤ sizeLine; decide, fun t ht => ?_⟩
              have s5 := same_new (o := .tup [.str p.1, x2]) ht
              refine q1 _ _ (rowD (p.1, d2)) (zip_rows hdl (List.getElem?_zip_eq_some.mp ep).1 g3) (sT.trans s5) ?_
              exact .tup (.inl (.inl upd_same)) (.cons (.str _) (.cons (dp_same (s3.trans (sT.trans s5)) _ _ g4) .nil))
          · intro H3 acc s3 hacc ha3
            rw [range_map] at ha3
            refine .inl ⟨L, _, rfl, .inl (.inl hacc), fun t3 ht3 => ?_⟩
            have s4 := same_new (o := .tup acc) ht3
            have s34 := s3.trans s4
            obtain ⟨ul, dl, eul, edl, hdl2⟩ : ∃ ul dl, us = us.take xs.length ++ [ul] ∧ ds.drop xs.length = [dl] ∧ Dp K H2 ul dl := by
              obtain ⟨dl, edl⟩ := one_of (show (ds.drop xs.length).length = 1 by rw [List.length_drop]; omega)
              have hud := DpAll.drop xs.length hu2
              rw [edl] at hud
              obtain ⟨ul, e, h⟩ := dpAll_one hud
              exact ⟨ul, dl, by rw [← e, List.take_append_drop], edl, h⟩
            refine ⟨_, rfl, _, rfl, _, rfl, _, rfl, b, _, _, _, rfl, rfl, sqt_same s34 hb2, by rw [eul]; exact atI_last _ _, by show 3 ≤ sizeLine; decide, fun t5 ht5 => ?_⟩
            have s5 := same_new (o := .tup [.str (wd (.bind w xs)), .ref t3, ul]) ht5
            refine k _ _ ((S2.trans s34).trans s5) (unview (h := .bind w xs) (.inl (.inl upd_same)) ⟨t3, acc, [ul], rfl, sqt_same s5 (.inl (.inl upd_same)), dps_same (s4.trans s5) _ _ ha3, ?_⟩)
            rw [edl]
            exact .cons (dp_same (s34.trans s5) _ _ hdl2) .nil
        | _ => cases eB
      | false =>
        refine iteF ?_
        refine ⟨_, rfl, rfl, _, rfl, ?_⟩
        rw [eq_do o]
        cases eD : isDo h with
        | true =>
          refine iteT ?_
          cases h with
          | doo =>
            refine ⟨_, rfl, _, rfl, by show 2 ≤ sizeLine; decide, fun t ht => ?_⟩
            have s3 := same_new (o := .tup [.str (wd .doo), .ref b]) ht
            exact k _ _ (S2.trans s3) (unview (h := .doo) (.inl (.inl upd_same)) ⟨b, us, rfl, sqt_same s3 hb2, dps_same s3 _ _ hu2⟩)
          | _ => cases eD
        | false =>
          refine iteF ?_
          refine ⟨_, rfl, rfl, _, rfl, ?_⟩
          rw [eq_call o]
          cases eC : isCall h with
          | true =>
            refine iteT ?_
            cases h with
            | call =>
              have hdl : 1 ≤ ds.length := by rw [hln]; exact o
              have hul := DpAll.len hu2
              obtain ⟨u0, ur, rfl⟩ : ∃ u0 ur, us = u0 :: ur := by
                cases us with
                | nil => simp at hul; omega
                | cons u0 ur => exact ⟨u0, ur, rfl⟩
              refine ⟨_, rfl, _, rfl, b, _, _, _, rfl, rfl, hb2, atI_nat (j := 0) rfl, _, rfl, 1, rfl, ?_⟩
              refine sl_from (k := 1) hb2 (by rw [List.length_cons]; omega) fun t3 H3 s3 ht3 => ⟨by show 3 ≤ sizeLine; decide, fun t ht => ?_⟩
              have s4 := same_new (o := .tup [.str (wd .call), u0, .ref t3]) ht
              exact k _ _ (S2.trans (s3.trans s4)) (unview (h := .call) (.inl (.inl upd_same)) ⟨t3, [u0], ur, rfl, DpAll.take 1 (dps_same (s3.trans s4) _ _ hu2), sqt_same s4 ht3, DpAll.drop 1 (dps_same (s3.trans s4) _ _ hu2)⟩)
            | _ => cases eC
          | false =>
            refine iteF ?_
            refine ⟨_, rfl, rfl, _, rfl, ?_⟩
            rw [eq_op o]
            cases eO : isOp h with
            | true =>
              refine iteT ?_
              have hx2 := hx.same S2
              cases h with
              | op o' =>
                obtain ⟨q, vs, rfl, hq, hv⟩ := hx2
                refine ⟨_, rfl, _, rfl, a, _, _, _, rfl, rfl, sqt_same S2 hs, atI_nat (j := 1) rfl, _, rfl, by show 3 ≤ sizeLine; decide, fun t ht => ?_⟩
                have s3 := same_new (o := .tup [.str (wd (.op o')), .str o', .ref b]) ht
                exact k _ _ (S2.trans s3) (unview (h := .op o') (.inl (.inl upd_same)) ⟨b, us, rfl, sqt_same s3 hb2, dps_same s3 _ _ hu2⟩)
              | _ => cases eO
            | false =>
              refine iteF ?_
              refine ⟨_, rfl, rfl, fun H3 s23 => ?_⟩
              have S3 := S2.trans s23
              have hb3 := sqt_same s23 hb2
              have hu3 := dps_same s23 _ _ hu2
              rw [in_P o]
              cases eP : kP h with
              | true =>
                refine iteT ?_
                cases h with
                | plain w =>
                  have hul := DpAll.len hu3
                  refine ⟨_, rfl, by show 1 ≤ sizeLine; decide, fun t4 ht4 => ?_⟩
                  have s4 := same_new (o := .tup [.str (wd (.plain w))]) ht4
                  refine ⟨_, rfl, ?_⟩
                  refine cat_any (.inl (.inl upd_same)) (sqt_same s4 hb3) (Nat.le_trans (show 1 + us.length ≤ 200 by omega) (by decide)) fun t5 H5 s5 ht5 => ?_
                  exact k _ _ (S3.trans (s4.trans s5)) (unview (h := .plain w) ht5 ⟨us, rfl, dps_same (s4.trans s5) _ _ hu3⟩)
                | _ => cases eP
              | false =>
                refine iteF ⟨_, rfl, ?_⟩
                have e0 : ds = ds0 := by
                  have e1 : ds0 = [] := by
                    cases h with
                    | num i => exact List.length_eq_zero_iff.mp o
                    | name i => exact List.length_eq_zero_iff.mp o.1
                    | lit i => exact List.length_eq_zero_iff.mp o.1
                    | one _ _ => cases eF
                    | fn _ => cases eF
                    | bind _ _ => cases eB
                    | doo => cases eD
                    | call => cases eC
                    | op _ => cases eO
                    | plain _ => cases eP
                  subst e1
                  exact List.length_eq_zero_iff.mp hln
                subst e0
                exact k _ _ S3 (dp_same S3 _ _ hd)
end
end K04

/-! paths of trees -/
namespace Cm
open PySem L2 PySem.Spec PyProof.Rows
def Tr.hd : Tr → Hd
  | .mk h _ => h
def Tr.ps : Tr → List Tr
  | .mk _ ps => ps
def Tr.at : List Int → Tr → Option Tr
  | [], t => some t
  | i :: r, .mk _ ps => if 0 ≤ i then (ps[i.toNat]?).bind (Tr.at r) else none
def Tr.put : List Int → Tr → Tr → Tr
  | [], _, o => o
  | i :: r, .mk h ps, o => match ps[i.toNat]? with
    | some p => .mk h (ps.set i.toNat (Tr.put r p o))
    | none => .mk h ps
mutual
def Tr.paths : Tr → List (List Int)
  | .mk _ ps => [] :: Tr.pathsL 0 ps
def Tr.pathsL : Nat → List Tr → List (List Int)
  | _, [] => []
  | i, t :: ts => t.paths.map (fun p => ((i : Nat) : Int) :: p) ++ Tr.pathsL (i + 1) ts
end
mutual
def Tr.size : Tr → Nat
  | .mk _ ps => Tr.sizes ps + 1
def Tr.sizes : List Tr → Nat
  | [] => 0
  | t :: ts => t.size + Tr.sizes ts
end
theorem at_snoc : ∀ (p : List Int) (i : Int) (t : Tr), Tr.at (p ++ [i]) t = (Tr.at p t).bind (Tr.at [i])
  | [], i, t => rfl
  | j :: r, i, .mk h ps => by
    show (if 0 ≤ j then (ps[j.toNat]?).bind (Tr.at (r ++ [i])) else none) = ((if 0 ≤ j then (ps[j.toNat]?).bind (Tr.at r) else none) : Option Tr).bind (Tr.at [i])
    by_cases q : 0 ≤ j
    · rw [if_pos q, if_pos q]
      cases ps[j.toNat]? with
      | none => rfl
      | some p => exact at_snoc r i p
    · rw [if_neg q, if_neg q]
      rfl
theorem at_one {i : Nat} {h : Hd} {ps : List Tr} : Tr.at [((i : Nat) : Int)] (.mk h ps) = ps[i]? := by
  show (if 0 ≤ ((i : Nat) : Int) then (ps[((i : Nat) : Int).toNat]?).bind (Tr.at []) else none) = _
  rw [if_pos (by omega), Int.toNat_natCast]
  cases ps[i]? <;> rfl
theorem at_ok : ∀ (p : List Int) {t s : Tr}, t.ok → Tr.at p t = some s → s.ok
  | [], t, s, o, e => by cases e; exact o
  | i :: r, .mk h ps, s, o, e => by
    have e' : (if 0 ≤ i then (ps[i.toNat]?).bind (Tr.at r) else none) = some s := e
    by_cases q : 0 ≤ i
    · rw [if_pos q] at e'
      cases hp : ps[i.toNat]? with
      | none => rw [hp] at e'; cases e'
      | some p =>
        rw [hp] at e'
        have o' : hok h ps.length ∧ ps.length ≤ 11 ∧ Tr.oks ps := o
        exact at_ok r (oks_iff.mp o'.2.2 p (List.mem_of_getElem? hp)) e'
    · rw [if_neg q] at e'
      cases e'
theorem at_dep : ∀ (p : List Int) {t s : Tr}, Tr.at p t = some s → s.dep + p.length ≤ t.dep
  | [], t, s, e => by cases e; exact Nat.le_refl _
  | i :: r, .mk h ps, s, e => by
    have e' : (if 0 ≤ i then (ps[i.toNat]?).bind (Tr.at r) else none) = some s := e
    by_cases q : 0 ≤ i
    · rw [if_pos q] at e'
      cases hp : ps[i.toNat]? with
      | none => rw [hp] at e'; cases e'
      | some p =>
        rw [hp] at e'
        have h1 := at_dep r (t := p) e'
        have h2 := deps_le.mp (Nat.le_refl (Tr.deps ps)) p (List.mem_of_getElem? hp)
        show s.dep + (r.length + 1) ≤ Tr.deps ps + 1
        omega
    · rw [if_neg q] at e'
      cases e'
theorem pathsL_snoc (t : Tr) : ∀ (ts : List Tr) (i : Nat), Tr.pathsL i (ts ++ [t]) = Tr.pathsL i ts ++ t.paths.map (fun p => (((i + ts.length : Nat)) : Int) :: p)
  | [], i => by
    show t.paths.map _ ++ [] = [] ++ _
    simp
  | a :: ts, i => by
    show a.paths.map _ ++ Tr.pathsL (i + 1) (ts ++ [t]) = (a.paths.map _ ++ Tr.pathsL (i + 1) ts) ++ _
    rw [pathsL_snoc t ts (i + 1), List.append_assoc, List.length_cons, show i + 1 + ts.length = i + (ts.length + 1) by omega]
mutual
theorem paths_len : ∀ t : Tr, t.paths.length = t.size
  | .mk h ps => by
    show (Tr.pathsL 0 ps).length + 1 = Tr.sizes ps + 1
    rw [pathsL_len 0 ps]
theorem pathsL_len : ∀ (i : Nat) (ts : List Tr), (Tr.pathsL i ts).length = Tr.sizes ts
  | _, [] => rfl
  | i, t :: ts => by
    show (t.paths.map _ ++ Tr.pathsL (i + 1) ts).length = t.size + Tr.sizes ts
    rw [List.length_append, List.length_map, paths_len t, pathsL_len (i + 1) ts]
end
theorem pathsL_mem {q : List Int} : ∀ (ts : List Tr) (i : Nat), q ∈ Tr.pathsL i ts → ∃ (j : Nat) (t : Tr) (p : List Int), ts[j]? = some t ∧ p ∈ t.paths ∧ q = ((i + j : Nat) : Int) :: p
  | [], i, m => by cases m
  | a :: ts, i, m => by
    have m' : q ∈ a.paths.map (fun p => ((i : Nat) : Int) :: p) ++ Tr.pathsL (i + 1) ts := m
    rcases List.mem_append.mp m' with m | m
    · obtain ⟨p, hp, rfl⟩ := List.mem_map.mp m
      exact ⟨0, a, p, rfl, hp, rfl⟩
    · obtain ⟨j, t, p, e1, e2, e3⟩ := pathsL_mem ts (i + 1) m
      exact ⟨j + 1, t, p, by simpa using e1, e2, by rw [e3]; congr 2; omega⟩
theorem paths_at : ∀ (n : Nat) (t : Tr), t.dep ≤ n → ∀ p ∈ t.paths, ∃ s, Tr.at p t = some s := by
  intro n
  induction n with
  | zero =>
    intro t h
    cases t with
    | mk hd ps => exact absurd h (by show ¬ (Tr.deps ps + 1 ≤ 0); omega)
  | succ n ih =>
    intro t h p hp
    cases t with
    | mk hd ps =>
      have hp' : p ∈ ([] : List Int) :: Tr.pathsL 0 ps := hp
      rcases List.mem_cons.mp hp' with rfl | hp'
      · exact ⟨_, rfl⟩
      · obtain ⟨j, t, q, e1, e2, rfl⟩ := pathsL_mem ps 0 hp'
        obtain ⟨s, es⟩ := ih t (dep_mk.mp h t (List.mem_of_getElem? e1)) q e2
        refine ⟨s, ?_⟩
        show (if 0 ≤ ((0 + j : Nat) : Int) then (ps[((0 + j : Nat) : Int).toNat]?).bind (Tr.at q) else none) = some s
        rw [if_pos (by omega), Nat.zero_add, Int.toNat_natCast, e1]
        exact es
theorem paths_size : ∀ (n : Nat) (t : Tr), t.dep ≤ n → ∀ p ∈ t.paths, p.length < t.dep := by
  intro n t h p hp
  obtain ⟨s, es⟩ := paths_at n t h p hp
  have := at_dep p es
  have : 1 ≤ s.dep := by cases s with | mk hd ps => show 1 ≤ Tr.deps ps + 1; omega
  omega
def pathI (x : List Int) : PyData := .tuple (x.map PyData.int)
theorem flat_pathI (xs : List (List Int)) : flatDs (xs.map pathI) = true := flatDs_of _ fun d hd => by
  obtain ⟨x, _, rfl⟩ := List.mem_map.mp hd
  exact flatDs_ints x
theorem dp_pathI {K : PySem.W.Frag} {H : Hp} {t : Addr} {x : List Int} (h : SqT K H t (x.map V.int)) : Dp K H (.ref t) (pathI x) := .tup h (dpAll_ints x)
theorem dpAll_ints_inv {K : PySem.W.Frag} {H : Hp} : ∀ {x : List Int} {vs : List V}, DpAll K H vs (x.map PyData.int) → vs = x.map V.int
  | [], _, h => by cases h; rfl
  | i :: x, _, h => by
    cases h with
    | cons h1 h2 => rw [dp_int h1, dpAll_ints_inv h2]; rfl
theorem pathI_inv {K : PySem.W.Frag} {H : Hp} {v : V} {x : List Int} (h : Dp K H v (pathI x)) : ∃ t, v = .ref t ∧ SqT K H t (x.map V.int) := by
  obtain ⟨a, its, rfl, hs, ha⟩ := dp_tup h
  rw [dpAll_ints_inv ha] at hs
  exact ⟨a, rfl, hs⟩
end Cm

/-! keep forms of trees; once in their place -/
namespace Cm
open PySem L2 PySem.Spec PyProof.Rows
def isKeep : Hd → Bool
  | .one w _ => decide (w = "keep")
  | _ => false
theorem eq_keep {h : Hd} {n : Nat} (o : hok h n) : decide (V.str (wd h) = V.str "keep") = isKeep h := by
  have other : kd h ≠ 3 → decide (wd h = "keep") = false := fun q => by
    have key : ∀ c < 10, c ≠ 3 → ∀ w ∈ wordsOf c, decide (w = ("keep" : Str)) = false := by decide +kernel
    exact key _ (wd_mem o).1 q _ (wd_mem o).2
  rw [decS]
  cases h with
  | one w x => rfl
  | num i => exact other (Nat.ne_of_beq_eq_false rfl)
  | name i => exact other (Nat.ne_of_beq_eq_false rfl)
  | lit i => exact other (Nat.ne_of_beq_eq_false rfl)
  | fn i => exact other (Nat.ne_of_beq_eq_false rfl)
  | bind i _ => exact other (Nat.ne_of_beq_eq_false rfl)
  | doo => exact other (Nat.ne_of_beq_eq_false rfl)
  | call => exact other (Nat.ne_of_beq_eq_false rfl)
  | op i => exact other (Nat.ne_of_beq_eq_false rfl)
  | plain i => exact other (Nat.ne_of_beq_eq_false rfl)
def keepAt (t : Tr) (p : List Int) : Bool := match Tr.at p t with
  | some s => isKeep s.hd
  | none => false
def keepPaths (t : Tr) : List (List Int) := t.paths.filter (keepAt t)
def keepL : Nat → List Tr → List (List Int)
  | _, [] => []
  | i, t :: ts => (keepPaths t).map (fun p => ((i : Nat) : Int) :: p) ++ keepL (i + 1) ts
theorem keepAt_cons {h : Hd} {ps : List Tr} {j : Nat} {t : Tr} (e : ps[j]? = some t) (p : List Int) : keepAt (.mk h ps) (((j : Nat) : Int) :: p) = keepAt t p := by
  unfold keepAt
  show (match (if 0 ≤ ((j : Nat) : Int) then (ps[((j : Nat) : Int).toNat]?).bind (Tr.at p) else none : Option Tr) with | some s => isKeep s.hd | none => false) = _
  rw [if_pos (by omega), Int.toNat_natCast, e]
  rfl
theorem filter_pathsL (h : Hd) : ∀ (ts pre : List Tr), (Tr.pathsL pre.length ts).filter (keepAt (.mk h (pre ++ ts))) = keepL pre.length ts
  | [], pre => rfl
  | t :: ts, pre => by
    show (t.paths.map (fun p => ((pre.length : Nat) : Int) :: p) ++ Tr.pathsL (pre.length + 1) ts).filter _ = (keepPaths t).map _ ++ keepL (pre.length + 1) ts
    have ih := filter_pathsL h ts (pre ++ [t])
    rw [List.length_append, List.length_singleton, List.append_assoc] at ih
    rw [List.filter_append]
    have e2 : pre ++ t :: ts = pre ++ ([t] ++ ts) := rfl
    rw [e2, ih]
    congr 1
    rw [List.filter_map]
    congr 1
    unfold keepPaths
    refine List.filter_congr fun p _ => ?_
    show keepAt (.mk h (pre ++ ([t] ++ ts))) (((pre.length : Nat) : Int) :: p) = keepAt t p
    exact keepAt_cons (by rw [List.getElem?_append_right (Nat.le_refl _), Nat.sub_self]; rfl) p
theorem keepPaths_mk (h : Hd) (ps : List Tr) : keepPaths (.mk h ps) = (if isKeep h = true then [[]] else []) ++ keepL 0 ps := by
  unfold keepPaths
  show (([] : List Int) :: Tr.pathsL 0 ps).filter (keepAt (.mk h ps)) = _
  have e := filter_pathsL h ps []
  simp only [List.nil_append, List.length_nil] at e
  rw [List.filter_cons, e]
  show (if isKeep h = true then _ else _) = _
  by_cases q : isKeep h = true
  · rw [if_pos q, if_pos q]; rfl
  · rw [if_neg q, if_neg q]; rfl
theorem keepL_snoc (t : Tr) : ∀ (ts : List Tr) (i : Nat), keepL i (ts ++ [t]) = keepL i ts ++ (keepPaths t).map (fun p => (((i + ts.length : Nat)) : Int) :: p)
  | [], i => by
    show (keepPaths t).map _ ++ [] = [] ++ _
    simp
  | a :: ts, i => by
    show (keepPaths a).map _ ++ keepL (i + 1) (ts ++ [t]) = ((keepPaths a).map _ ++ keepL (i + 1) ts) ++ _
    rw [keepL_snoc t ts (i + 1), List.append_assoc, List.length_cons, show i + 1 + ts.length = i + (ts.length + 1) by omega]
theorem keepL_le : ∀ (ts : List Tr) (i : Nat), (keepL i ts).length ≤ Tr.sizes ts
  | [], i => Nat.le_refl _
  | t :: ts, i => by
    have := keepL_le ts (i + 1)
    have h1 : (keepPaths t).length ≤ t.size := by rw [← paths_len]; exact List.length_filter_le ..
    show ((keepPaths t).map _ ++ keepL (i + 1) ts).length ≤ t.size + Tr.sizes ts
    rw [List.length_append, List.length_map]
    omega
/-! ### once in the place of keep at the paths of S -/
def reword (b : Bool) : Hd → Hd
  | .one w x => if b = true ∧ w = "keep" then .one "once" x else .one w x
  | h => h
mutual
def Tr.rw (S : List (List Int)) (pre : List Int) : Tr → Tr
  | .mk h ps => .mk (reword (decide (pre ∈ S)) h) (Tr.rwL S pre 0 ps)
def Tr.rwL (S : List (List Int)) (pre : List Int) : Nat → List Tr → List Tr
  | _, [] => []
  | i, t :: ts => Tr.rw S (pre ++ [((i : Nat) : Int)]) t :: Tr.rwL S pre (i + 1) ts
end
theorem rwL_len (S : List (List Int)) (pre : List Int) : ∀ (ts : List Tr) (i : Nat), (Tr.rwL S pre i ts).length = ts.length
  | [], _ => rfl
  | t :: ts, i => by
    show (Tr.rwL S pre (i + 1) ts).length + 1 = ts.length + 1
    rw [rwL_len S pre ts (i + 1)]
theorem rwL_at (S : List (List Int)) (pre : List Int) : ∀ (ts : List Tr) (i j : Nat), (Tr.rwL S pre i ts)[j]? = (ts[j]?).map (Tr.rw S (pre ++ [((i + j : Nat) : Int)]))
  | [], _, _ => rfl
  | t :: ts, i, 0 => rfl
  | t :: ts, i, j + 1 => by
    show (Tr.rwL S pre (i + 1) ts)[j]? = (ts[j]?).map _
    rw [rwL_at S pre ts (i + 1) j, show i + 1 + j = i + (j + 1) by omega]
theorem rwL_eq {S R : List (List Int)} {pre : List Int} : ∀ (ts : List Tr) (i : Nat), (∀ j t, ts[j]? = some t → Tr.rw S (pre ++ [((i + j : Nat) : Int)]) t = Tr.rw R (pre ++ [((i + j : Nat) : Int)]) t) → Tr.rwL S pre i ts = Tr.rwL R pre i ts
  | [], _, _ => rfl
  | t :: ts, i, h => by
    show Tr.rw S _ t :: Tr.rwL S pre (i + 1) ts = Tr.rw R _ t :: Tr.rwL R pre (i + 1) ts
    have h0 := h 0 t rfl
    rw [Nat.add_zero] at h0
    have h1 := rwL_eq (S := S) (R := R) (pre := pre) ts (i + 1) fun j t e => by
      have := h (j + 1) t (by simpa using e)
      rw [show i + 1 + j = i + (j + 1) by omega]
      exact this
    rw [h0, h1]
/-- a path that does not begin so changes nothing -/
theorem rw_irrel {S : List (List Int)} {q : List Int} (t : Tr) : ∀ (pre : List Int), (∀ r, q ≠ pre ++ r) → Tr.rw (S ++ [q]) pre t = Tr.rw S pre t := by
  refine tr_ind (P := fun t => ∀ (pre : List Int), (∀ r, q ≠ pre ++ r) → Tr.rw (S ++ [q]) pre t = Tr.rw S pre t) (fun h ps ih pre hq => ?_) t
  show Tr.mk (reword (decide (pre ∈ S ++ [q])) h) (Tr.rwL (S ++ [q]) pre 0 ps) = Tr.mk (reword (decide (pre ∈ S)) h) (Tr.rwL S pre 0 ps)
  have e1 : decide (pre ∈ S ++ [q]) = decide (pre ∈ S) := by
    have n : pre ≠ q := fun e => hq [] (by rw [e, List.append_nil])
    simp [n]
  rw [e1, rwL_eq ps 0 fun j t e => ih t (List.mem_of_getElem? e) _ fun r z => hq ([((0 + j : Nat) : Int)] ++ r) (by rw [z, List.append_assoc])]
theorem put_rw {S : List (List Int)} : ∀ (p pre : List Int) (t : Tr) (x : Str) (b : Tr), Tr.at p t = some (.mk (.one "keep" x) [b]) →
    ∃ w b', Tr.at p (Tr.rw S pre t) = some (.mk (.one w x) [b']) ∧ Tr.put p (Tr.rw S pre t) (.mk (.one "once" x) [b']) = Tr.rw (S ++ [pre ++ p]) pre t
  | [], pre, t, x, b, e => by
    cases e
    have e2 : Tr.rw (S ++ [pre ++ []]) pre (.mk (.one "keep" x) [b]) = .mk (.one "once" x) [Tr.rw S (pre ++ [((0 : Nat) : Int)]) b] := by
      show Tr.mk (reword (decide (pre ∈ S ++ [pre ++ []])) (.one "keep" x)) [Tr.rw (S ++ [pre ++ []]) (pre ++ [((0 : Nat) : Int)]) b] = _
      rw [List.append_nil, rw_irrel b (pre ++ [((0 : Nat) : Int)]) fun r z => by
        have := congrArg List.length z
        simp at this]
      simp [reword]
    have e3 : ∃ w, reword (decide (pre ∈ S)) (.one "keep" x) = .one w x := by
      show ∃ w, (if decide (pre ∈ S) = true ∧ ("keep" : Str) = "keep" then Hd.one "once" x else Hd.one "keep" x) = .one w x
      split
      · exact ⟨_, rfl⟩
      · exact ⟨_, rfl⟩
    obtain ⟨w, e3⟩ := e3
    refine ⟨w, Tr.rw S (pre ++ [((0 : Nat) : Int)]) b, ?_, ?_⟩
    · show some (Tr.mk (reword (decide (pre ∈ S)) (.one "keep" x)) [Tr.rw S (pre ++ [((0 : Nat) : Int)]) b]) = _
      rw [e3]
    · rw [e2]
      rfl
  | i :: r, pre, .mk h ps, x, b, e => by
    have e' : (if 0 ≤ i then (ps[i.toNat]?).bind (Tr.at r) else none) = some (.mk (.one "keep" x) [b]) := e
    have h0 : 0 ≤ i := by
      by_cases q : 0 ≤ i
      · exact q
      · rw [if_neg q] at e'
        cases e'
    obtain ⟨m, rfl⟩ : ∃ m : Nat, i = (m : Int) := ⟨i.toNat, by omega⟩
    rw [if_pos h0, Int.toNat_natCast] at e'
    cases ec : ps[m]? with
    | none => rw [ec] at e'; cases e'
    | some c =>
      rw [ec] at e'
      obtain ⟨w, b', g1, g2⟩ := put_rw r (pre ++ [(m : Int)]) c x b e'
      have er : (Tr.rwL S pre 0 ps)[m]? = some (Tr.rw S (pre ++ [(m : Int)]) c) := by rw [rwL_at, ec, Nat.zero_add]; rfl
      refine ⟨w, b', ?_, ?_⟩
      · show (if 0 ≤ (m : Int) then ((Tr.rwL S pre 0 ps)[(m : Int).toNat]?).bind (Tr.at r) else none) = _
        rw [if_pos h0, Int.toNat_natCast, er]
        exact g1
      · show (match (Tr.rwL S pre 0 ps)[(m : Int).toNat]? with | some p => Tr.mk (reword (decide (pre ∈ S)) h) ((Tr.rwL S pre 0 ps).set (m : Int).toNat (Tr.put r p _)) | none => _) = _
        rw [Int.toNat_natCast, er]
        show Tr.mk (reword (decide (pre ∈ S)) h) ((Tr.rwL S pre 0 ps).set m (Tr.put r (Tr.rw S (pre ++ [(m : Int)]) c) (.mk (.one "once" x) [b']))) = Tr.mk (reword (decide (pre ∈ S ++ [pre ++ (m : Int) :: r])) h) (Tr.rwL (S ++ [pre ++ (m : Int) :: r]) pre 0 ps)
        rw [g2]
        have e1 : decide (pre ∈ S ++ [pre ++ (m : Int) :: r]) = decide (pre ∈ S) := by
          have n : pre ≠ pre ++ (m : Int) :: r := fun e => by
            have := congrArg List.length e
            simp at this
          simp [n]
        rw [e1]
        congr 1
        have hm : m < ps.length := (List.getElem?_eq_some_iff.mp ec).1
        refine List.ext_getElem? fun j => ?_
        rw [rwL_at]
        by_cases q : j = m
        · subst q
          rw [List.getElem?_set_self (by rw [rwL_len]; exact hm), ec, Nat.zero_add, List.append_assoc]
          rfl
        · rw [List.getElem?_set_ne (Ne.symm q), rwL_at]
          cases ej : ps[j]? with
          | none => rfl
          | some d =>
            show some _ = some _
            rw [rw_irrel d (pre ++ [((0 + j : Nat) : Int)]) fun r' z => q ?_]
            rw [List.append_assoc] at z
            have z2 := List.append_cancel_left z
            simp at z2
            omega
end Cm

/-! paths as data: equality, being in a list -/
namespace Cm
open PySem L2 PySem.Spec PyProof.Rows
theorem eqvAll_intsP : ∀ a b : List Int, PyData.eqvAll (a.map PyData.int) (b.map PyData.int) = decide (a = b)
  | [], [] => by simp [PyData.eqvAll]
  | [], b :: bs => by simp [PyData.eqvAll]
  | a :: as, [] => by simp [PyData.eqvAll]
  | a :: as, b :: bs => by
    have ih := eqvAll_intsP as bs
    simp only [List.map_cons, PyData.eqvAll, PyData.eqv, ih]
    by_cases h : a = b
    · by_cases h2 : as = bs <;> simp [h, h2]
    · simp [h]
theorem eqv_path (a b : List Int) : PyData.eqv (pathI a) (pathI b) = decide (a = b) := by
  have := eqvAll_intsP a b
  simp only [pathI, PyData.eqv]
  exact this
theorem any_path (S : List (List Int)) (p : List Int) : ((S.map pathI).any fun z => PyData.eqv z (pathI p)) = decide (p ∈ S) := by
  induction S with
  | nil => rfl
  | cons s S ih =>
    rw [List.map_cons, List.any_cons, ih, eqv_path]
    by_cases h : s = p
    · simp [h]
    · have : ¬ p = s := fun z => h z.symm
      simp [h, this]
theorem lay_path (p : List Int) : Lay 1 (pathI p) := Lay.tup (n := 0) fun d hd => by
  obtain ⟨i, _, rfl⟩ := List.mem_map.mp hd
  exact .int i 0
theorem lay_paths (S : List (List Int)) : Lay 2 (.list (S.map pathI)) := Lay.lst fun d hd => by
  obtain ⟨i, _, rfl⟩ := List.mem_map.mp hd
  exact lay_path i
theorem lay_pathsT (S : List (List Int)) : Lay 2 (.tuple (S.map pathI)) := Lay.tup fun d hd => by
  obtain ⟨i, _, rfl⟩ := List.mem_map.mp hd
  exact lay_path i
theorem ko_notInD {X : Cx} {K : PySem.W.Frag} (hu : X.A.units + 65 < cLine) (h : X.K = K := by rfl) : OpR X (compareOp .NotIn) (rNotInD K) := by subst h; exact op_notInD hu
theorem ko_inD {X : Cx} {K : PySem.W.Frag} (hu : X.A.units + 65 < cLine) (h : X.K = K := by rfl) : OpR X (compareOp .In) (rInD K) := by subst h; exact op_inD hu
def rListOf (K : PySem.W.Frag) : List V → Hp → VK → Prop := fun xs H Q => ∃ p ys, xs = [.ref p] ∧ (SqL K H p ys ∨ SqT K H p ys) ∧ ∀ l, H l = Option.none → Q (.ref l) (upd H l (.lst ys))
theorem kc_listOf {X : Cx} {K : PySem.W.Frag} (h : X.K = K := by rfl) : CallR X (.type "list") (rListOf K) := by subst h; exact call_list_of
theorem room65 {k : Nat} {A : Around} (r : Room k A) : A.units + 65 < cLine := by have := r.un; omega
end Cm

/-! an exception that is caught and kept as a value -/
namespace Cm
open PySem L2 PySem.Spec PyProof.Rows
/-- an exception object at a: its class, its dict -/
def ExH (a : Addr) (cls : Value) (d : Option Addr) : HO := .ext fun h => ∃ (o : Obj) (vs : Array Value), h.get? a = some o ∧ Zc cls d o ∧ o.data = .fields vs
theorem exH_ok {P : Program} {w : World} {H : Hp} {h : Heap} {a : Addr} {cls : Value} {d : Option Addr} {o : Obj} {vs : Array Value} (e : h.get? a = some o) (z : Zc cls d o) (f : o.data = .fields vs) : ObjOk P w H h a (ExH a cls d) :=
  ⟨⟨o, vs, e, z, f⟩, ⟨o, e⟩, fun h1 h2 ⟨o', vs', e', z', f'⟩ k => ⟨o', vs', k _ e', z', f'⟩⟩
theorem exH_at {P : Program} {w : World} {H : Hp} {h : Heap} {a : Addr} {cls : Value} {d : Option Addr} (hok : HOk P w H h) (e : H a = some (ExH a cls d)) : ∃ (o : Obj) (vs : Array Value), h.get? a = some o ∧ Zc cls d o ∧ o.data = .fields vs := by
  have x : ObjOk P w H h a (ExH a cls d) := hok a _ e
  exact x.1
section
variable {X : Cx} {pins : List (Addr × Obj)} {σ : L2.St} {H : Hp} {s : Shared}
theorem track {a : Addr} {o : HO} (I : Inv X pins σ H s) (na : H a = Option.none) (n0 : X.s_0.heap.get? a = Option.none) (nL : a ≠ X.env.locals) (nC : ∀ x c, X.env.cells.lookup x = some c → c ≠ a) (nP : ∀ p ∈ X.pn ++ pins, p.1 ≠ a)
    (new : ObjOk X.prog X.w (upd H a o) s.heap a o) : Inv X pins σ (upd H a o) s := by
  have other : ∀ {b : Addr} {u : HO}, H b = some u → (upd H a o) b = some u := fun {b u} e => by
    rw [upd_ne (ne_of_none e na)]
    exact e
  refine ⟨I.ok, I.os, I.bare, ⟨I.base.keep, I.base.slot, fun b u e n hx => ?_, I.base.there, fun b xs e => other (I.base.tups b xs e), fun b u xs e => other (I.base.frzs b u xs e), fun b ps e => ?_⟩, I.loc, I.cell, ?_, fun x c e => ?_, fun p hp => ?_, fun b u e => ?_, I.len⟩
  · have hb : b ≠ a := fun z => by
      rw [z, n0] at e
      cases e
    rw [upd_ne hb]
    exact I.base.free b u e n hx
  · obtain ⟨more, q⟩ := I.base.tbls b ps e
    exact ⟨more, other q⟩
  · rw [upd_ne nL.symm]
    exact I.free
  · rw [upd_ne (nC x c e)]
    exact I.freeC x c e
  · obtain ⟨e, n, ne, nf, dd⟩ := I.pin p hp
    exact ⟨e, by rw [upd_ne (nP p hp)]; exact n, ne, nf, dd⟩
  · by_cases hb : b = a
    · subst hb
      rw [upd_same] at e
      cases e
      exact new
    · rw [upd_ne hb] at e
      exact (I.hok b u e).stay (fun c v _ q => q) (fun c q => other q) fun c xs q => other q
theorem suite0 (I : Inv X pins σ H s) (a : Addr) : Inv (X.suite a (X.pn ++ pins)) [] σ H s :=
  ⟨I.ok.suite _ _, I.os, I.bare, I.base, I.loc, I.cell, I.free, I.freeC, fun p hp => I.pin p (by rw [List.append_nil] at hp; exact hp), I.hok, I.len⟩
theorem unsuite0 {a : Addr} {pn' : List (Addr × Obj)} (I : Inv (X.suite a (X.pn ++ pins)) pn' σ H s) (ok : X.Ok) : Inv X pins σ H s :=
  ⟨ok, I.os, I.bare, I.base, I.loc, I.cell, I.free, I.freeC, fun p hp => I.pin p (List.mem_append_left _ hp), I.hok, I.len⟩
end
/-- what the clause asks where the caught exception is kept -/
def wHeld (K : PySem.W.Frag) (c : Value) (i : Nat) (ts : Addr → TS) (D : Ends) : WX := fun cls d σ H =>
  PySem.W.exmOne K cls c = some true ∧ ∀ a, H a = Option.none → ts a { nx := fun σ' H' => D.nx (σ'.set i Option.none) H', rt := D.rt, bk := fun σ' H' => D.bk (σ'.set i Option.none) H', ct := fun σ' H' => D.ct (σ'.set i Option.none) H' } (σ.set i (some (.ref a))) (upd H a (ExH a cls d))
section
variable {X : Cx} {x n : Str} {c : Value} {i : Nat} {body suite : List Stmt} {b₀ : Stmt} {np pos pos' : Pos} {tb : WX → TS} {ts : Addr → TS}
theorem ps_try_held (hs : X.stack = X.env :: X.outer) (hf : X.env.frame = some X.env.locals) (hN : X.N.Nodup) (hi : X.N[i]? = some n) (hln : X.env.kindOf n = some .local) (hc : Names X x c) (hex : X.ex = [])
    (hb : ∀ (W : WX) (pn : List (Addr × Obj)) (xe : Value → Shared → Prop), Takes (X.tr pn xe) W → PassesOwn (model X.prog X.w) X.A X.env xe → PSs (X.tr pn xe) body (tb W))
    (hsu : ∀ (a : Addr) (pn : List (Addr × Obj)), PSs (X.suite a pn) (b₀ :: suite) (ts a)) :
    PS X (.Try body [.ExceptHandler (some (.Name x np)) (some n) (b₀ :: suite) pos'] [] [] pos) (fun D σ H => tb (wHeld X.K c i ts D) D σ H) := by
  refine ⟨fun pins s σ H D I h => ?_⟩
  have ok := I.ok
  have hfr : X.A.frames = some (X.env :: X.outer) := by rw [ok.frames, hs]
  refine wpAny_Try_except ?_
  refine wpAny_mono ((hb (wHeld X.K c i ts D) (X.pn ++ pins) (fun e s₁ => wpAny (model X.prog X.w) X.A (noteFrame e X.env) (fun _ s₂ => wpAny (model X.prog X.w) X.A (setFlight e Option.none) (fun _ s₃ =>
    wpAny (model X.prog X.w) X.A (handleBy e X.env [.ExceptHandler (some (.Name x np)) (some n) (b₀ :: suite) pos']) (SP X pins D) X.xe s₃) X.xe s₂) X.xe s₁) (fun u s' xx => ?_) PassesOwn.looking).run [] s σ H D (I.toTry _) h) (fun f s1 hsp => ?_) (fun e s1 he => he)
  · obtain ⟨a, B, sI, pins', σ', H', cls, d, rfl, J', nb, up, sky, na, os, ag, hb1, hyes⟩ := xx
    have J : Inv X pins σ' H' sI := J'.ofTry ok
    have sky' : Sky B (X.env :: X.outer) a (Zc cls d) X.env.locals s'.heap := by rw [← hs]; exact sky
    show wpAny _ _ (noteFrame (.ref a) X.env) _ _ _
    refine Sky.land Zc.steady hfr hf sky' fun h3 fl3 up3 => ?_
    have J3 : Inv X pins σ' H' { s' with heap := h3 } := J.landed nb fl3.1 (up.trans up3) os ag
    obtain ⟨oe3, vs3, he3, hz3, hd3⟩ := fl3.there
    have nfr : a ∉ frs X.stack := fun hm => by
      rw [hs] at hm
      obtain ⟨_, o', e', hnf⟩ := fl3.2.2.1.mem hm
      rw [he3] at e'
      cases e'
      exact hnf _ hd3
    have nsI : sI.heap.get? a = Option.none := by
      cases q : sI.heap.get? a with
      | none => rfl
      | some o =>
        have z := nb a o q nfr
        rw [fl3.2.1] at z
        cases z
    have n0 : X.s_0.heap.get? a = Option.none := by
      cases q : X.s_0.heap.get? a with
      | none => rfl
      | some o =>
        obtain ⟨o', z⟩ := J.base.there a o q (by rw [hex]; exact List.not_mem_nil)
        rw [nsI] at z
        cases z
    have nL : a ≠ X.env.locals := fun z => nfr (by
      rw [hs]
      exact List.mem_filterMap.mpr ⟨X.env, List.mem_cons_self, by rw [hf, z]⟩)
    have nC : ∀ y c, X.env.cells.lookup y = some c → c ≠ a := fun y c e z => by
      obtain ⟨v, o, ho, _⟩ := J.cell y c e
      rw [z, nsI] at ho
      cases ho
    have nP : ∀ p ∈ X.pn ++ pins, p.1 ≠ a := fun p hp z => by
      have q := (J.pin p hp).1
      rw [z, nsI] at q
      cases q
    have S3 := suite0 J3 a
    refine wpAny_handleBy_cons (codeAny_handlers_test ?_) (by intro q; cases q)
    have LT : PySem.W.Looks (model X.prog X.w) h3 (typeOf (.ref a)) cls := fun A Q E s k q => wpAny_typeOf_ref (k _ _ he3) (by rw [hz3.1]; exact q)
    have LM := PySem.W.exm_one (M := model X.prog X.w) (J3.kIn) LT hb1
    have test : ∀ {Q : Value → Shared → Prop} {E : Value → Shared → Prop}, Q c { s' with heap := h3 } → wpAny (model X.prog X.w) (X.A.mark (some (.ref a))) (eval (.Name x np) X.env) Q E { s' with heap := h3 } := fun {Q E} q => by
      obtain ⟨hg, hdbg, hm | ⟨hm, hv, hnn⟩⟩ := hc
      · exact ld_glob (X := X.suite a (X.pn ++ pins)) S3 hg hm q hdbg
      · exact ld_blt (X := X.suite a (X.pn ++ pins)) S3 hg hm hv q hnn hdbg
    refine test (LM.here ?_)
    refine codeAny_handlers_suite_as ?_
    refine HandSPX.lands_againZ fl3 fun h4 fl4 up4 => ?_
    have J4 : Inv X pins σ' H' { s' with heap := h4 } := J.landed nb fl4.1 ((up.trans up3).trans up4) os ag
    obtain ⟨oe4, vs4, he4, hz4, hd4⟩ := fl4.there
    have T4 := track (o := ExH a cls d) J4 na n0 nL nC nP (exH_ok he4 hz4 hd4)
    have S4 := suite0 T4 a
    refine store_ok (X := X.suite a (X.pn ++ pins)) (v := .ref a) S4 hN hi (.inl hln) rfl (fun s5 S5 => ?_) (.inr hln)
    refine wpAny_mono ((hsu a (X.pn ++ pins)).run [] s5 _ _ _ S5 (hyes a na)) (fun f s6 hsp => ?_) (fun _ _ z => False.elim z)
    have end_ : ∀ {σ6 : L2.St} {H6 : Hp} {Q : Shared → Prop}, Inv (X.suite a (X.pn ++ pins)) [] σ6 H6 s6 → (∀ s7, Inv X pins (σ6.set i Option.none) H6 s7 → Q s7) →
        wpAny (model X.prog X.w) X.A (do bindName X.env n .none; unbindBehindTheSuite X.env n pos') (fun _ s7 => Q s7) X.xe s6 := fun {σ6 H6 Q} S6 hq => gone_ok (unsuite0 S6 ok) hN hi hln hq
    cases f with
    | next =>
      obtain ⟨σ6, H6, S6, q6⟩ := hsp
      exact end_ S6 fun s7 J7 => ⟨_, _, J7, q6⟩
    | brk =>
      obtain ⟨σ6, H6, S6, q6⟩ := hsp
      exact end_ S6 fun s7 J7 => ⟨_, _, J7, q6⟩
    | cont =>
      obtain ⟨σ6, H6, S6, q6⟩ := hsp
      exact end_ S6 fun s7 J7 => ⟨_, _, J7, q6⟩
    | ret u =>
      obtain ⟨v6, σ6, H6, S6, r6, q6⟩ := hsp
      exact end_ S6 fun s7 J7 => ⟨_, _, _, J7, r6, q6⟩
  · cases f with
    | next =>
      obtain ⟨σ', H', J', q⟩ := hsp
      exact wpAny_execs_nil ⟨σ', H', J'.ofTry ok, q⟩
    | brk =>
      obtain ⟨σ', H', J', q⟩ := hsp
      exact ⟨σ', H', J'.ofTry ok, q⟩
    | cont =>
      obtain ⟨σ', H', J', q⟩ := hsp
      exact ⟨σ', H', J'.ofTry ok, q⟩
    | ret u =>
      obtain ⟨v, σ', H', J', r, q⟩ := hsp
      exact ⟨v, σ', H', J'.ofTry ok, r, q⟩
end
/-! ### isinstance(x, C), x a kept exception of just that class -/
theorem ans_same {x t : Value} {P : Heap → Prop} (ty : ∀ (M : Model) (h : Heap), P h → PySem.W.Looks M h (typeOf x) t) : Answers (fun s => P s.heap) x t true := by
  intro dep tk prog w A R s hs
  obtain ⟨h0, g, d, tt, os⟩ := s
  obtain ⟨p, hq⟩ := hs
  have LT := ty (model prog w) h0 p
  unfold Builtin.«isinstance.nested»
  refine wpAny_bind (LT.at ?_)
  have q : (t == t) = true := beq_self_eq_true t
  rw [if_pos q]
  first
    | exact wpAny_bind (wpAny_rule (hq tt))
    | exact wpAny_bind (wpAny_rule (wpAny_pure (hq tt)))
    | exact wpAny_pure (hq tt)
def rIsX : List V → Hp → VK → Prop := fun xs H Q => ∃ (a C : Addr) (d : Option Addr), xs = [.ref a, .ref C] ∧ H a = some (ExH a (.ref C) d) ∧ Q (.bl true) H
theorem call_isX {X : Cx} : CallR X (.builtin "isinstance") rIsX := by
  intro pins s σ H xs us Q I r h
  obtain ⟨a, C, d, rfl, e, q⟩ := h
  obtain ⟨u1, u2, rfl, r1, r2⟩ := vals2 r
  obtain rfl : u1 = Value.ref a := r1
  obtain rfl : u2 = Value.ref C := r2
  obtain ⟨o, vs, ho, z, f⟩ := exH_at I.hok e
  refine call_isinstance (S := fun _ R s => (∃ o, s.heap.get? a = some o ∧ o.cls = .ref C) ∧ ∀ tk, R (.ok (.ret (.bool true))) { s with toks := tk })
    (fun prog w A R s hs => isinstance_outer (ans_same (P := fun h => ∃ o, h.get? a = some o ∧ o.cls = .ref C) (fun M h ⟨o, e, c⟩ => fun A Q E s k q => wpAny_typeOf_ref (k _ _ e) (by rw [c]; exact q)) 0 _ prog w A R s hs) (fun z => nomatch z)) ⟨⟨o, ho, z.1⟩, fun tk => ⟨.bl true, H, I.tok tk, rfl, q⟩⟩
/-! ### x.f, x a kept exception -/
def tFldX (K : PySem.W.Frag) (f : Str) (te : TE) : TE := fun σ H Q => te σ H fun x H1 => ∃ (a C dd : Addr) (fs : List (Str × V)) (v : V), x = .ref a ∧ XfC K C ∧ PySem.W.findIn K (.ref C) f = some Option.none ∧ H1 a = some (ExH a (.ref C) (some dd)) ∧ H1 dd = some (.xd fs) ∧ fs.lookup f = some v ∧ Q v H1
theorem pe_fldX {X : Cx} {e : Expr} {te : TE} {pos : Pos} {n : Str} (he : PE X e te) (hb : attributeBase e n X.env (eval e X.env) = eval e X.env := by rfl) : PE X (.Attribute e n pos) (tFldX X.K n te) := by
  refine ⟨fun pins s σ H Q I h => ?_⟩
  refine attr_of hb (thn (he.run pins s σ H _ I h) fun u s1 hh => ?_)
  obtain ⟨x, H1, I1, rx, a, C, dd, fs, v, ex, T, hno, eh, ea, l, q⟩ := hh
  subst ex
  obtain rfl : u = Value.ref a := rx
  obtain ⟨oe, vs, ha, hz, hd⟩ := exH_at I1.hok eh
  have hx : ObjOk X.prog X.w H1 s1.heap dd (.xd fs) := I1.hok dd _ ea
  obtain ⟨mA, hns, hr⟩ := hx
  obtain ⟨od, ho, hl⟩ := lookIn_ns hns
  obtain ⟨u, hu, ru⟩ := RelO.some_of (v := v) (o := mA n) (by rw [← l]; exact hr n)
  have J : PySem.W.InstAt s1.heap a oe C (some od) := ⟨ha, hz.1, by unfold PySem.W.notCls; rw [hd] <;> rfl, by rw [hz.2]; exact ho⟩
  exact HandSPX.exc_get I1.kIn J T.ga T.gg T.exC (PySem.W.findObj_own T.hdC hno rfl (by rw [hl, hu])) (handed_of ru) ⟨v, H1, I1.tok _, ru, q⟩
end Cm

set_option linter.all false
/-! a tuple times 0, 1, 2, .. -/
namespace L2
open PySem PySem.Spec PyProof.Rows
theorem tuple_mul1 (l : Addr) (items : Array Value) (n : Nat) (dd : Option Addr) (sl : Array (Option Value)) (u : Tok) :
    Meets (Builtin.«tuple.__mul__» ⟨[.ref l, .int 1 u], []⟩) (fun _ R s => s.heap.get? l = some { cls := .type "tuple", dict := dd, data := .seq items n, slots := sl } ∧ R (.ok (.ret (Value.ref l))) s) :=
  .of_wp fun prog w A R s h => by
    obtain ⟨hp, g, d, tk, os⟩ := s
    obtain ⟨hl, h⟩ := h
    have f1 := AutoSeq1.idx_int
    wp_walk using wpAny_loadPart' hl
    exact ⟨_, rfl, h⟩
theorem tuple_mul0 (l : Addr) (items : Array Value) (n : Nat) (dd : Option Addr) (sl : Array (Option Value)) (u : Tok) (hne : items.isEmpty = false) :
    Meets (Builtin.«tuple.__mul__» ⟨[.ref l, .int 0 u], []⟩) (fun _ R s => s.heap.get? l = some { cls := .type "tuple", dict := dd, data := .seq items n, slots := sl } ∧
      R (.ok (.ret (Value.ref s.heap.objs.size))) { s with heap := s.heap.push { cls := Value.type "tuple", data := Data.seq #[] }, toks := s.toks }) :=
  .of_wp fun prog w A R s h => by
    obtain ⟨hp, g, d, tk, os⟩ := s
    obtain ⟨hl, h⟩ := h
    have f1 := AutoSeq1.idx_int
    have c1 : (items.isEmpty || (0 : Int) == 1) = false := by rw [hne]; rfl
    wp_walk using wpAny_loadPart' hl
    repeat (first
      | (refine wpAny_ite_false (decide_eq_false (by rw [c1]; exact Bool.false_ne_true)) ?_; wp_walk using wpAny_loadPart' hl)
      | (refine wpAny_ite_true (decide_eq_true (by simp)) ?_; wp_walk using wpAny_loadPart' hl))
    exact ⟨_, rfl, h⟩
def rRepA (K : PySem.W.Frag) : R2 := fun x y H Q => ∃ (l : Addr) (k : Nat) (xs : List V), x = .ref l ∧ y = .int (k : Nat) ∧ SqT K H l xs ∧ xs ≠ [] ∧ k ≤ 1000 ∧ xs.length ≤ 1000 ∧
  ∀ t H', Same H H' → SqT K H' t (List.replicate k xs).flatten → Q (.ref t) H'
theorem op_repA {X : Cx} : OpR X (binaryOp .Mult) (rRepA X.K) := by
  intro pins s σ H x y v u Q I rx ry h
  obtain ⟨l, k, xs, rfl, rfl, hT, hne, h2, hz, q⟩ := h
  by_cases hk : 2 ≤ k
  · refine op_repT pins s σ H _ _ v u Q I rx ry ⟨l, (k : Int), xs, rfl, rfl, hT, hne, by omega, by omega, hz, fun p hp => ?_⟩
    rw [Int.toNat_natCast]
    exact q p _ (Cm.same_new hp) (.inl (.inl upd_same))
  cases rx
  obtain ⟨t, rfl⟩ := ry
  obtain ⟨its, r, ⟨⟨cls, dd, data, sl⟩, ho, hc, n, hd⟩, hs⟩ := I.tuple hT
  simp only at hc hd
  subst hc hd
  have hi : its.toArray.isEmpty = false := by
    cases its with
    | nil =>
      have := r.length
      exact absurd (List.eq_nil_of_length_eq_zero this) hne
    | cons a b => rfl
  by_cases h1 : k = 1
  · subst h1
    refine wpAny_binaryOp_repeat_ref (T := "tuple") (U := "int") (by decide) ⟨_, ho, rfl⟩ (fun s' => typeIs_int s' 1 t) noFill_tuple_mul F.fills_int_mul F.slot_int_rmul repeat_tuple F.slot_int_index.lookup
      (call_meets F.slot_int_rmul (typeIs_int s 1 t) F.entry_int_rmul (F.args_int_rmul_2 _ _) (int_rmul_tuple 1 t l its.toArray n dd sl)
        ⟨ho, rfl, ⟨_, ho, rfl⟩, call_meets F.slot_tuple_mul ⟨_, ho, rfl⟩ F.entry_tuple_mul (F.args_tuple_mul_2 _ _) (tuple_mul1 l its.toArray n dd sl t) ⟨ho, ?_⟩⟩)
    refine ⟨.ref l, H, I, rfl, q l H (Same.refl H) ?_⟩
    have e : (List.replicate 1 xs).flatten = xs := by simp
    rw [e]
    exact hT
  · have h0 : k = 0 := by omega
    subst h0
    refine wpAny_binaryOp_repeat_ref (T := "tuple") (U := "int") (by decide) ⟨_, ho, rfl⟩ (fun s' => typeIs_int s' 0 t) noFill_tuple_mul F.fills_int_mul F.slot_int_rmul repeat_tuple F.slot_int_index.lookup
      (call_meets F.slot_int_rmul (typeIs_int s 0 t) F.entry_int_rmul (F.args_int_rmul_2 _ _) (int_rmul_tuple 0 t l its.toArray n dd sl)
        ⟨ho, rfl, ⟨_, ho, rfl⟩, call_meets F.slot_tuple_mul ⟨_, ho, rfl⟩ F.entry_tuple_mul (F.args_tuple_mul_2 _ _) (tuple_mul0 l its.toArray n dd sl t hi) ⟨ho, ?_⟩⟩)
    have hn := I.hok.fresh (Nat.le_refl s.heap.objs.size)
    refine ⟨.ref s.heap.objs.size, _, I.laid (t' := s.toks) (o := .tup []) (fun b ob q => Heap.get?_push_of_some _ q) (Nat.le_refl _) ?_, rfl, q _ _ (Cm.same_new hn) (.inl (.inl upd_same))⟩
    exact ⟨by show 0 ≤ sizeLine; rw [sizeLine_eq]; omega, [], .nil, IsTup.new _ _⟩
end L2

set_option linter.all false
/-! sorted of texts and of a dict with text keys, of any length; rows of texts in order -/
namespace Cm
open PySem L2 PySem.Spec PyProof.Rows
section
variable {X : Cx}
def rSortedSA (K : PySem.W.Frag) : List V → Hp → VK → Prop := fun vs H Q => ∃ (a : Addr) (xs : List Str), vs = [V.ref a] ∧ SqL K H a (xs.map V.str) ∧
  ∀ (ys : List Str) (p : Addr), ys.Perm xs → sortedS ys = true → H p = Option.none → Q (.ref p) (upd H p (.lst (ys.map V.str)))
theorem cr_sortedSA : CallR X (.builtin "sorted") (rSortedSA X.K) := by
  intro pins s σ H vs us Q I r h
  obtain ⟨a, xs, rfl, hs, q⟩ := h
  obtain ⟨its, rv, hl, hz⟩ := I.list hs
  rw [Vals.ref1 r]
  have hlen0 := rv.length
  rw [List.length_map] at hlen0 hz
  refine PyProof.Rows.sorted_strsAny hl.isList rv.strs (by rw [← hlen0]; exact hz) fun out ys h1 h2 h3 => ?_
  obtain ⟨ep, he'⟩ := PyProof.Rows.sortedAll_at s.heap its out
  have hlen : (ys.map V.str).length ≤ sizeLine := by rw [List.length_map, h2.length_eq]; exact hz
  exact ⟨.ref _, upd H (s.heap.objs.size + 1) (.lst (ys.map V.str)), I.laid (t' := s.toks) (fun _ _ => PyProof.Rows.sortedAll_old) (Nat.le_succ _) ⟨hlen, out.toList, ep, vals_of_strs h1, he'⟩, rfl, q ys _ h2 h3 (I.hok.fresh (Nat.le_succ _))⟩
def rSortedDA : List V → Hp → VK → Prop := fun xs H Q => ∃ (a : Addr) (kvs : List (Key × V)) (ks : List Str), xs = [.ref a] ∧ Rd H a (.dK kvs) ∧ kvs.map (·.1) = ks.map Sum.inr ∧ ks.length ≤ 16000000 ∧
    ∀ ys p, ys.Perm ks → sortedS ys = true → H p = Option.none → Q (.ref p) (upd H p (.lst (ys.map V.str)))
theorem call_sortedDA (hcalm : X.calm = true) : CallR X (.builtin "sorted") rSortedDA := by
  intro pins s σ H xs us Q I r q
  obtain ⟨a, kvs, ks, ex, hd, hks, h64, q⟩ := q
  subst ex
  obtain ⟨u, eu, rx⟩ := vals1 r
  subst eu
  cases rx
  obtain ⟨z, lo, vs, rel, dd⟩ := dk_rd I.hok hd
  obtain ⟨ep, hat⟩ := dd.dictAt
  have hkeys : vs.map (·.1) = ks.map Sum.inr := rel.keys.symm.trans hks
  have hl : vs.length = ks.length := by
    have e := congrArg List.length hkeys
    rw [List.length_map, List.length_map] at e
    exact e
  have h16 : vs.length ≤ sizeLine := by rw [hl, sizeLine_eq]; omega
  refine Calls.call_function_entry PyProof.Rows.kind_sorted PyProof.Rows.plain_sorted PyProof.Rows.entry_sorted (PyProof.Rows.args_sorted1 _) ?_
  unfold Builtin.«sorted»
  refine wpAny_bind (m := checkCount "sorted" 1 1 _) (wpAny_pure ?_)
  refine wpAny_bind (PySem.W.kdu_collect (A := X.A.in1) (PySem.W.kdl_dict (knd := mixKind X.prog X.w) (kvs := vs) (ep := ep) lo) (I.ok.hd hcalm) hat h16 fun h' tk acc hk hacc => ?_)
  have hal : acc.toList.length = ks.length := by rw [Array.length_toList, hacc.1, hl]
  have hS : StrsAre acc.toList ks := strs_at hal fun j v e => by
    obtain ⟨k, x, e1, e2⟩ := hacc.2 j v (by rw [← Array.getElem?_toList]; exact e)
    have e3 : (vs.map (·.1))[j]? = some k := by rw [List.getElem?_map, e1]; all_goals rfl
    rw [hkeys, List.getElem?_map] at e3
    cases e4 : ks[j]? with
    | none => rw [e4] at e3; cases e3
    | some y =>
      rw [e4] at e3
      have e5 : Sum.inr y = k := Option.some.inj e3
      subst e5
      obtain ⟨t, ev⟩ := Value.isStrOf_shape (x := y) (v := v) e2
      exact ⟨y, t, rfl, ev⟩
  have I1 : Inv X pins σ H { s with heap := h', toks := tk } := I.kept hk
  refine wpAny_bind (wpAny_newList ?_ (by rw [hal, sizeLine_eq]; omega))
  have hoL : (h'.push (seqObj "list" acc.toList.toArray 0)).get? h'.objs.size = some (seqObj "list" acc.toList.toArray 0) := Heap.get?_push_size _ rfl
  show wpAny _ _ _ _ _ { s with heap := h'.push (seqObj "list" acc.toList.toArray 0), toks := tk }
  refine wpAny_bind (wpAny_holding (wpAny_call_entry PyProof.Rows.slot_list_sort ⟨_, hoL, rfl⟩ PyProof.Rows.entry_list_sort
    (list_sort_treeKAny strKind_oneLt (s := { s with heap := h'.push (seqObj "list" acc.toList.toArray 0), toks := tk }) hoL hS.keysOf (fun v₁ v₂ rest e => keyKind_strs (by rw [← e]; exact hS)) (by rw [hal, sizeLine_eq]; omega) fun st' hp hs => ⟨_, rfl, ?_⟩)
    (PyProof.Rows.args_list_sort _)))
  obtain ⟨ys, g1, g2, g3⟩ := sorted_out_str hS hp hs
  obtain ⟨e', he'⟩ := PyProof.Rows.sortedHeap_at (vs := acc.toList) (out := (arrOf st').map (·.2)) hoL
  have hlen : (ys.map V.str).length ≤ sizeLine := by
    rw [List.length_map, g2.length_eq, sizeLine_eq]
    omega
  refine wpAny_pure ⟨_, rfl, .ref h'.objs.size, upd H h'.objs.size (.lst (ys.map V.str)), I1.laid (t' := tk) (fun b u e => ?_) (Nat.le_refl _)
    (show ObjOk X.prog X.w _ _ _ (.lst (ys.map V.str)) from ⟨hlen, ((arrOf st').map (·.2)).toList, e', vals_of_strs g1, by rw [Array.toArray_toList]; exact he'⟩), rfl, q ys _ g2 g3 (I1.hok.fresh (Nat.le_refl _))⟩
  have hb : b < h'.objs.size := Heap.lt_size e
  rw [PyProof.Rows.sortedHeap_old (Nat.ne_of_lt hb) (by rw [size_push']; exact Nat.lt_succ_of_lt hb)]
  exact Heap.get?_push_of_some _ e
end
/-! ### rows of texts in order -/
def leS (a b : Str) : Prop := ¬ b.cps.toList < a.cps.toList
theorem leS.tr {a b c : Str} (h : leS a b) (k : leS b c) : leS a c := fun z =>
  absurd z (List.not_lt.mpr (List.le_trans (show a.cps.toList ≤ b.cps.toList from h) (show b.cps.toList ≤ c.cps.toList from k)))
theorem leS.eq {a b : Str} (h : leS a b) (k : leS b a) : a = b := by
  have e : a.cps.toList = b.cps.toList := List.le_antisymm (show a.cps.toList ≤ b.cps.toList from h) (show b.cps.toList ≤ a.cps.toList from k)
  cases a with
  | mk x => cases b with
    | mk y =>
      have e' : x = y := Array.toList_inj.mp e
      rw [e']
theorem leS.refl (a : Str) : leS a a := List.lt_irrefl _
theorem rising_le : ∀ (l : List Str) (p : Str), risingS p l = true → (p :: l).Pairwise leS
  | [], p, _ => List.pairwise_singleton _ _
  | x :: r, p, h => by
    have h' : (!ltCps x.cps.toList p.cps.toList && risingS x r) = true := h
    rw [Bool.and_eq_true] at h'
    have ih := rising_le r x h'.2
    have le : leS p x := fun z => by
      have := h'.1
      rw [ltCps_eq, decide_eq_true z] at this
      cases this
    refine List.pairwise_cons.mpr ⟨fun y hy => ?_, ih⟩
    rcases List.mem_cons.mp hy with rfl | hy
    · exact le
    · exact le.tr ((List.pairwise_cons.mp ih).1 y hy)
theorem sorted_le : ∀ {l : List Str}, sortedS l = true → l.Pairwise leS
  | [], _ => .nil
  | x :: r, h => rising_le r x h
/-- ascending, without doubles -/
structure Asc (l : List Str) : Prop where
  le : l.Pairwise leS
  nd : l.Nodup
theorem Asc.uniq : ∀ {l m : List Str}, Asc l → Asc m → (∀ x, x ∈ l ↔ x ∈ m) → l = m := fun {l m} hl hm h => by
  have p : l.Perm m := (List.perm_ext_iff_of_nodup hl.nd hm.nd).mpr h
  exact List.Perm.eq_of_pairwise (fun a b _ _ h k => leS.eq h k) hl.le hm.le p
theorem asc_of {l ys : List Str} (h : ys.Perm l) (s : sortedS ys = true) (n : l.Nodup) : Asc ys ∧ ∀ x, x ∈ ys ↔ x ∈ l :=
  ⟨⟨sorted_le s, h.nodup_iff.mpr n⟩, fun x => h.mem_iff⟩
/-- one more text, not less than those that stand -/
theorem Asc.snoc {l : List Str} {x : Str} (h : Asc l) (k : ∀ y ∈ l, leS y x) (n : l.getLast? ≠ some x) : Asc (l ++ [x]) := by
  have no : x ∉ l := fun m => by
    cases e : l.getLast? with
    | none => rw [List.getLast?_eq_none_iff] at e; rw [e] at m; cases m
    | some z =>
      obtain ⟨r, rfl⟩ := List.getLast?_eq_some_iff.mp e
      have hz : leS z x := k z (List.mem_append_right _ List.mem_cons_self)
      rcases List.mem_append.mp m with m | m
      · have hx : leS x z := (List.pairwise_append.mp h.le).2.2 x m z List.mem_cons_self
        exact n (by rw [e, hz.eq hx])
      · exact n (by rw [e, List.mem_singleton.mp m])
  refine ⟨List.pairwise_append.mpr ⟨h.le, List.pairwise_singleton _ _, fun a ha b hb => ?_⟩, List.nodup_append.mpr ⟨h.nd, List.nodup_cons.mpr ⟨List.not_mem_nil, List.nodup_nil⟩, fun a ha b hb e => ?_⟩⟩
  · rw [List.mem_singleton.mp hb]
    exact k a ha
  · rw [List.mem_singleton.mp hb] at e
    exact no (e ▸ ha)
/-! ### keys of a dict that are texts -/
theorem putK_keys {kvs : List (Key × V)} {ns : List Str} (h : kvs.map (·.1) = ns.map Sum.inr) (x : Str) (v : V) : (putK kvs (Sum.inr x) v).map (·.1) = (if x ∈ ns then ns else ns ++ [x]).map Sum.inr := by
  have a : (kvs.any fun kv => decide (kv.1 = Sum.inr x)) = decide (x ∈ ns) := by
    have e : (kvs.any fun kv => decide (kv.1 = Sum.inr x)) = (kvs.map (·.1)).any fun k => decide (k = Sum.inr x) := by rw [List.any_map]; rfl
    rw [e, h, List.any_map]
    clear h e
    induction ns with
    | nil => rfl
    | cons n ns ih =>
      rw [List.any_cons, ih]
      by_cases q : n = x
      · subst q
        simp
      · have : ¬ x = n := fun z => q z.symm
        simp [q, this]
  unfold putK
  rw [a]
  by_cases q : x ∈ ns
  · rw [if_pos (decide_eq_true q), if_pos q, List.map_map, ← h]
    refine List.map_congr_left fun kv _ => ?_
    show (if kv.1 = Sum.inr x then (kv.1, v) else kv).1 = kv.1
    split <;> rfl
  · rw [if_neg (by rw [decide_eq_false q]; exact Bool.false_ne_true), if_neg q, List.map_append, List.map_append, h]
    rfl
/-- what is kept but the dict d -/
structure Kd (d : Addr) (H H' : Hp) : Prop where
  st : ∀ a o, a ≠ d → H a = some o → H' a = some o
  d1 : ∃ kvs, H d = some (.dK kvs)
  d2 : ∃ kvs, H' d = some (.dK kvs)
theorem Kd.trans {d : Addr} {H H1 H2 : Hp} (a : Kd d H H1) (b : Kd d H1 H2) : Kd d H H2 := ⟨fun x o n e => b.st x o n (a.st x o n e), a.d1, b.d2⟩
theorem Kd.of_same {d : Addr} {H H' : Hp} {kvs : List (Key × V)} (h : H d = some (.dK kvs)) (s : Same H H') : Kd d H H' := ⟨fun x o _ e => s x o e, ⟨_, h⟩, ⟨_, s _ _ h⟩⟩
theorem Kd.put {d : Addr} {H : Hp} {kvs kvs' : List (Key × V)} (h : H d = some (.dK kvs)) : Kd d H (upd H d (.dK kvs')) := ⟨fun x o n e => by rw [upd_ne n]; exact e, ⟨_, h⟩, ⟨_, upd_same⟩⟩
theorem Kd.tup {d : Addr} {K : PySem.W.Frag} {H H' : Hp} {a : Addr} {xs : List V} (k : Kd d H H') (h : SqT K H a xs) : SqT K H' a xs := by
  have no : ∀ o, H a = some o → (∀ ys, o ≠ .dK ys) → a ≠ d := fun o e n m => by
    obtain ⟨ys, e2⟩ := k.d1
    rw [m, e2] at e
    exact n ys (Option.some.inj e).symm
  rcases h with (h | ⟨o, h⟩) | h
  · exact .inl (.inl (k.st _ _ (no _ h fun _ z => nomatch z) h))
  · exact .inl (.inr ⟨o, k.st _ _ (no _ h fun _ z => nomatch z) h⟩)
  · exact .inr h
theorem Kd.dp {d : Addr} {K : PySem.W.Frag} {H H' : Hp} (k : Kd d H H') {v : V} {x : PyData} (f : flatD x = true) (h : Dp K H v x) : Dp K H' v x := dp_keep (fun _ _ q => k.tup q) _ _ f h
theorem Kd.dps {d : Addr} {K : PySem.W.Frag} {H H' : Hp} (k : Kd d H H') {vs : List V} {ds : List PyData} (f : flatDs ds = true) (h : DpAll K H vs ds) : DpAll K H' vs ds := dps_keep (fun _ _ q => k.tup q) _ _ f h
/-- a comprehension over data, of any size -/
theorem lc_dataW {K : PySem.W.Frag} {J : It} {n : Nat} {G : Hp → Prop} {Y : Nat → Hp → V → Hp → Prop} (wk : Walk J n G Y) {g : TG} {tt : TT} {te : TE} {vs : List Nat} {σ : L2.St} {H1 : Hp} {D : Addr} {Qd : Hp → Prop} (R : Nat → Option PyData)
    (hD : H1 D = Option.none) (hn : n ≤ 16000000) (hG : ∀ H, Same H1 H → G H) (hfl : ∀ i < n, ∀ d, R i = some d → flatD d = true)
    (hs : ∀ i x H H', i < n → Same H1 H → Y i H x H' → ∀ (Q1 : VK) (Q0 : Hp → Prop), (∀ v H4 d, R i = some d → Same H H4 → Dp K H4 v d → Q1 v H4) → (∀ H3, R i = none → Same H H3 → Q0 H3) →
      g x (wipe σ vs) H' fun σ2 H2 => wipe σ2 vs = wipe σ vs ∧ tt σ2 H2 fun b H3 => if b = true then te σ2 H3 Q1 else Q0 H3)
    (hd : ∀ H acc, Same H1 H → H D = some (.lst acc) → DpAll K H acc ((List.range n).filterMap R) → Qd H) :
    ∃ W : Nat → Nat → Hp → Prop, (∃ m, W 0 m (upd H1 D (.lst []))) ∧ ∀ i m H, W i m H →
      (J.stop i H ∧ Qd H) ∨ (J.go i H ∧ ∃ Nx : Hp → Prop, (∀ H', Nx H' → ∃ m', m' < m ∧ W (i + 1) m' H') ∧ ∀ x H', J.yld i H x H' → g x (wipe σ vs) H' fun σ2 H2 => wipe σ2 vs = wipe σ vs ∧ tt σ2 H2 fun b H3 =>
        if b = true then te σ2 H3 fun y H4 => ∃ acc, H4 D = some (.lst acc) ∧ acc.length < sizeLine ∧ Nx (upd H4 D (.lst (acc ++ [y]))) else Nx H3) := by
  have fl : ∀ i ≤ n, flatDs ((List.range i).filterMap R) = true := fun i hi => flatDs_of _ fun d hd => by
    obtain ⟨j, hj, e⟩ := List.mem_filterMap.mp hd
    exact hfl j (by have := List.mem_range.mp hj; omega) d e
  refine lc_it wk (fun i H => ∃ acc, Same H1 H ∧ H D = some (.lst acc) ∧ DpAll K H acc ((List.range i).filterMap R) ∧ acc.length ≤ i) ⟨[], same_new hD, upd_same, .nil, Nat.le_refl _⟩ (fun i H _ z => ?_) ?_ ?_
  · obtain ⟨acc, s, _⟩ := z
    exact hG H s
  · rintro i x H H' hi ⟨acc, s, hacc, ha, hl⟩ y
    refine hs i x H H' hi s y _ _ (fun v H4 d e s4 hv => ?_) (fun H3 e s3 => ?_)
    · have hD4 := s4 _ _ hacc
      refine ⟨acc, hD4, (by rw [sizeLine_eq]; omega), acc ++ [v], same_put (s.trans s4) hD, upd_same, ?_, by rw [List.length_append]; exact Nat.succ_le_succ hl⟩
      rw [List.range_succ, List.filterMap_append]
      have e1 : ([i].filterMap R) = [d] := by simp [e]
      rw [e1]
      exact DpAll.snoc (dp_keep (fun _ _ q => sqt_put hD4 q) _ _ (hfl i hi d e) hv) (dps_keep (fun _ _ q => sqt_put hD4 q) _ _ (fl i (by omega)) (dps_same s4 _ _ ha))
    · refine ⟨acc, s.trans s3, s3 _ _ hacc, ?_, by omega⟩
      rw [List.range_succ, List.filterMap_append]
      have e1 : ([i].filterMap R) = [] := by simp [e]
      rw [e1, List.append_nil]
      exact dps_same s3 _ _ ha
  · rintro H ⟨acc, s, hacc, ha, _⟩
    exact hd H acc s hacc ha
end Cm

/-! a comprehension that draws, with a word on what was made so far -/
namespace Cm
open PySem L2 PySem.Spec PyProof.Rows
theorem lc_drawJ {K : PySem.W.Frag} {M : Addr → Prop} {I : It} {n : Nat} {G : Hp → Prop} {Y : Nat → Hp → V → Hp → Prop} (wk : Walk I n G Y) {g : TG} {tt : TT} {te : TE} {vs : List Nat} {σ : L2.St} {H1 : Hp} {D : Addr} {Qd : Hp → Prop}
    (J : Nat → List PyData → Hp → Prop) (hM : ∀ a, M a → ∃ xs, H1 a = some (.lst xs)) (h0 : J 0 [] (upd H1 D (.lst []))) (hJ : ∀ i ds H ys, Kp M H1 H → J i ds H → J i ds (upd H D (.lst ys)))
    (hD : H1 D = Option.none) (hn : n ≤ 100000) (hG : ∀ i ds H, Kp M H1 H → J i ds H → G H) (hfl : ∀ i ds H, J i ds H → flatDs ds = true)
    (hs : ∀ i x ds H H', i < n → Kp M H1 H → J i ds H → Y i H x H' → ∀ (Q1 : VK) (Q0 : Hp → Prop), (∀ v H4 d, Kp M H H4 → J (i + 1) (ds ++ [d]) H4 → Dp K H4 v d → Q1 v H4) → (∀ H3, Kp M H H3 → J (i + 1) ds H3 → Q0 H3) →
      g x (wipe σ vs) H' fun σ2 H2 => wipe σ2 vs = wipe σ vs ∧ tt σ2 H2 fun b H3 => if b = true then te σ2 H3 Q1 else Q0 H3)
    (hd : ∀ H acc ds, Kp M H1 H → J n ds H → H D = some (.lst acc) → DpAll K H acc ds → Qd H) :
    ∃ W : Nat → Nat → Hp → Prop, (∃ m, W 0 m (upd H1 D (.lst []))) ∧ ∀ i m H, W i m H →
      (I.stop i H ∧ Qd H) ∨ (I.go i H ∧ ∃ Nx : Hp → Prop, (∀ H', Nx H' → ∃ m', m' < m ∧ W (i + 1) m' H') ∧ ∀ x H', I.yld i H x H' → g x (wipe σ vs) H' fun σ2 H2 => wipe σ2 vs = wipe σ vs ∧ tt σ2 H2 fun b H3 =>
        if b = true then te σ2 H3 fun y H4 => ∃ acc, H4 D = some (.lst acc) ∧ acc.length < sizeLine ∧ Nx (upd H4 D (.lst (acc ++ [y]))) else Nx H3) := by
  have nM : ¬ M D := fun m => by
    obtain ⟨xs, e⟩ := hM D m
    rw [hD] at e
    cases e
  refine lc_it wk (fun i H => ∃ acc ds, Kp M H1 H ∧ J i ds H ∧ H D = some (.lst acc) ∧ DpAll K H acc ds ∧ acc.length ≤ i) ⟨[], [], Kp.new hM hD, h0, upd_same, .nil, Nat.le_refl _⟩ (fun i H _ z => ?_) ?_ ?_
  · obtain ⟨acc, ds, s, j, _⟩ := z
    exact hG i ds H s j
  · rintro i x H H' hi ⟨acc, ds, s, j, hacc, ha, hl⟩ y
    refine hs i x ds H H' hi s j y _ _ (fun v H4 d s4 j4 hv => ?_) (fun H3 s3 j3 => ?_)
    · have hD4 := s4.st _ _ nM hacc
      have f4 := hfl _ _ _ j4
      have f1 : flatDs ds = true := hfl _ _ _ j
      have f2 : flatD d = true := flatDs_all f4 d (List.mem_append_right _ (List.mem_singleton.mpr rfl))
      refine ⟨acc, hD4, Nat.lt_of_le_of_lt hl (Nat.lt_of_lt_of_le (show i < 100000 by omega) (by decide)), acc ++ [v], ds ++ [d], (s.trans s4).mut hD, hJ _ _ _ _ (s.trans s4) j4, upd_same, ?_, by rw [List.length_append]; exact Nat.succ_le_succ hl⟩
      exact DpAll.snoc (dp_keep (fun _ _ q => sqt_put hD4 q) _ _ f2 hv) (dps_keep (fun _ _ q => sqt_put hD4 q) _ _ f1 (dps_keep (fun _ _ q => s4.tup q) _ _ f1 ha))
    · exact ⟨acc, ds, s.trans s3, j3, s3.st _ _ nM hacc, dps_keep (fun _ _ q => s3.tup q) _ _ (hfl _ _ _ j) ha, by omega⟩
  · rintro H ⟨acc, ds, s, j, hacc, ha, _⟩
    exact hd H acc ds s j hacc ha
/-- a built-in method with arguments, where K is said -/
theorem ke_bm {X : Cx} {K : PySem.W.Frag} {T : String} {name : Str} {id : String} {r : V → List V → Hp → VK → Prop} {o e : Expr} {es : List Expr} {to : TE} {t : TA} {apos cpos : Pos} (pa : PlainAttrs T) (slot : Slot T name id)
    (hty : typeOf (.builtin id) = pure (.type "method_descriptor")) (hm : MtR X id r) (ho : PE X o to) (ha : PA X (e :: es) t) (hK : X.K = K := by rfl) (b1 : attributeBase o name X.env (eval o X.env) = eval o X.env := by rfl)
    (b2 : ((backTo cpos (starEach (e :: es) X.env)).all (fun x => !x.1) && (backToKw cpos (keywordEach [] X.env)).all (fun x => x.1.isSome) && decide ((e :: es).length + ([] : List Keyword).length + (if ([] : List Keyword).isEmpty then 0 else 1) < 30)) = true := by rfl)
    (b3 : (apos.endLine == cpos.line) = true := by rfl) (b4 : starEach (e :: es) X.env = (false, eval e X.env) :: starEach es X.env := by rfl) (b5 : (backTo cpos (starEach es X.env)).any (·.1) = false := by rfl) :
    PE X (.Call (.Attribute o name apos) (e :: es) [] cpos) (tBM K T r to t) := by
  subst hK
  exact pe_bm pa slot hty hm ho ha b1 b2 b3 b4 b5
end Cm

/-! trees that are drawn: the hand and the room -/
namespace Cm
open PySem L2 PySem.Spec PyProof.Rows
/-- the hand at h, the room k at r -/
structure Gn (H : Hp) (h c r : Addr) (k : Nat) : Prop where
  hand : Hand H h c
  rm : H r = some (.lst [.int (k : Nat)])
  rh : r ≠ h
  rc : r ≠ c
abbrev Kr (h r : Addr) : Hp → Hp → Prop := Kp (fun a => a = h ∨ a = r)
theorem Gn.lists {H : Hp} {h c r : Addr} {k : Nat} (x : Gn H h c r k) : ∀ a, (a = h ∨ a = r) → ∃ xs, H a = some (.lst xs) := fun a m => by
  rcases m with rfl | rfl
  · exact x.hand.lst
  · exact ⟨_, x.rm⟩
theorem Gn.refl {H : Hp} {h c r : Addr} {k : Nat} (x : Gn H h c r k) : Kr h r H H := Kp.refl x.lists
theorem Gn.same {H H' : Hp} {h c r : Addr} {k : Nat} (x : Gn H h c r k) (s : Same H H') : Gn H' h c r k ∧ Kr h r H H' := ⟨⟨x.hand.same s, s _ _ x.rm, x.rh, x.rc⟩, .of_same x.lists s⟩
theorem Gn.draw {H H' : Hp} {h c r : Addr} {k : Nat} (x : Gn H h c r k) (kh : Kh h H H') (hh : Hand H' h c) : Gn H' h c r k ∧ Kr h r H H' :=
  ⟨⟨hh, kh.st _ _ x.rh x.rm, x.rh, x.rc⟩, kh.wider (fun _ m => .inl m) x.lists⟩
theorem Gn.puts {H : Hp} {h c r D : Addr} {o : HO} {k : Nat} (x : Gn H h c r k) (n1 : D ≠ h) (n2 : D ≠ c) (n3 : D ≠ r) : Gn (upd H D o) h c r k :=
  ⟨x.hand.puts n1 n2, by rw [upd_ne n3.symm]; exact x.rm, x.rh, x.rc⟩
/-- the room is one less -/
theorem Gn.less {H : Hp} {h c r : Addr} {k : Nat} (x : Gn H h c r (k + 1)) : Gn (upd H r (.lst [.int (k : Nat)])) h c r k ∧ Kr h r H (upd H r (.lst [.int (k : Nat)])) :=
  ⟨⟨x.hand.puts x.rh x.rc, upd_same, x.rh, x.rc⟩, Kp.put x.lists (.inr rfl)⟩
theorem sizes_snoc (t : Tr) : ∀ ts : List Tr, Tr.sizes (ts ++ [t]) = Tr.sizes ts + t.size
  | [] => by show t.size + 0 = 0 + t.size; omega
  | a :: ts => by
    have := sizes_snoc t ts
    show a.size + Tr.sizes (ts ++ [t]) = a.size + Tr.sizes ts + t.size
    omega
/-- a comprehension of drawn trees: F says how they lie in the list, E how one of them does -/
theorem lc_gen {K : PySem.W.Frag} {h c r : Addr} {k : Nat} {I : It} {n : Nat} {G : Hp → Prop} {Y : Nat → Hp → V → Hp → Prop} (wk : Walk I n G Y) {g : TG} {te : TE} {vs : List Nat} {σ : L2.St} {H1 : Hp} {D : Addr} {Qd : Hp → Prop}
    (F : List Tr → List PyData) (E : Nat → Tr → PyData) (dm cost : Nat) (F0 : F [] = []) (FS : ∀ ts t, ts.length < n → F (ts ++ [t]) = F ts ++ [E ts.length t]) (Fl : ∀ ts, flatDs (F ts) = true)
    (x0 : Gn H1 h c r k) (hD : H1 D = Option.none) (hn : n ≤ 100000) (hG : ∀ H, Kr h r H1 H → G H)
    (hs : ∀ i x k1 H H', i < n → Kr h r H1 H → Gn H h c r k1 → Y i H x H' → ∀ Q1 : VK, (∀ v t k2 H4, Kr h r H H4 → Gn H4 h c r k2 → Dp K H4 v (E i t) → t.ok → t.dep ≤ dm → t.size + 12 * k2 ≤ cost + 12 * k1 → Q1 v H4) →
      g x (wipe σ vs) H' fun σ2 H2 => wipe σ2 vs = wipe σ vs ∧ te σ2 H2 Q1)
    (hd : ∀ H acc ts k1, Kr h r H1 H → Gn H h c r k1 → H D = some (.lst acc) → DpAll K H acc (F ts) → ts.length = n → (∀ t ∈ ts, t.ok ∧ t.dep ≤ dm) → Tr.sizes ts + 12 * k1 ≤ cost * n + 12 * k → Qd H) :
    ∃ W : Nat → Nat → Hp → Prop, (∃ m, W 0 m (upd H1 D (.lst []))) ∧ ∀ i m H, W i m H →
      (I.stop i H ∧ Qd H) ∨ (I.go i H ∧ ∃ Nx : Hp → Prop, (∀ H', Nx H' → ∃ m', m' < m ∧ W (i + 1) m' H') ∧ ∀ x H', I.yld i H x H' → g x (wipe σ vs) H' fun σ2 H2 => wipe σ2 vs = wipe σ vs ∧ tYes σ2 H2 fun b H3 =>
        if b = true then te σ2 H3 fun y H4 => ∃ acc, H4 D = some (.lst acc) ∧ acc.length < sizeLine ∧ Nx (upd H4 D (.lst (acc ++ [y]))) else Nx H3) := by
  have nD := x0.hand.there hD
  have nDr : D ≠ r := (ne_of_none x0.rm hD).symm
  refine lc_drawJ (K := K) (M := fun a => a = h ∨ a = r) wk (fun i ds H => ∃ ts k1, ds = F ts ∧ Gn H h c r k1 ∧ ts.length = i ∧ (∀ t ∈ ts, t.ok ∧ t.dep ≤ dm) ∧ Tr.sizes ts + 12 * k1 ≤ cost * i + 12 * k) x0.lists
    ⟨[], k, F0.symm, (x0.same (same_new hD)).1, rfl, (fun _ m => by cases m), (by show 0 + 12 * k ≤ cost * 0 + 12 * k; omega)⟩ (fun i ds H ys _ j => ?_) hD hn (fun _ _ H kk _ => hG H kk) (fun i ds H j => ?_) ?_ ?_
  · obtain ⟨ts, k1, a1, a2, a3⟩ := j
    exact ⟨ts, k1, a1, a2.puts nD.1 nD.2 nDr, a3⟩
  · obtain ⟨ts, k1, rfl, _⟩ := j
    exact Fl ts
  · rintro i x ds H H' hi kk ⟨ts, k1, rfl, a2, a3, a4, a5⟩ y Q1 Q0 q1 q0
    refine hs i x k1 H H' hi kk a2 y Q1 fun v t k2 H4 k4 x4 hv ok dp sz => ?_
    refine q1 v H4 (E i t) k4 ⟨ts ++ [t], k2, ?_, x4, ?_, ?_, ?_⟩ hv
    · rw [FS ts t (by omega), a3]
    · rw [List.length_append, a3]; rfl
    · intro u hu
      rcases List.mem_append.mp hu with hu | hu
      · exact a4 u hu
      · cases List.mem_singleton.mp hu
        exact ⟨ok, dp⟩
    · rw [sizes_snoc, Nat.mul_succ]
      omega
  · rintro H acc ds kk ⟨ts, k1, rfl, a2, a3, a4, a5⟩ hacc ha
    exact hd H acc ts k1 kk a2 hacc ha a3 a4 a5
theorem encL_snoc (t : Tr) (ts : List Tr) : Tr.encL (ts ++ [t]) = Tr.encL ts ++ [t.enc] := by
  rw [encL_map, encL_map, List.map_append]
  rfl
/-- rows of names and trees -/
def rowsL (xs : List Str) (ts : List Tr) : List PyData := (xs.zip (Tr.encL ts)).map rowD
theorem rowsL_snoc {t : Tr} : ∀ {xs : List Str} {ts : List Tr}, ts.length < xs.length → rowsL xs (ts ++ [t]) = rowsL xs ts ++ [rowD ((xs[ts.length]?).getD "", t.enc)]
  | x :: xs, [], _ => by simp [rowsL, Tr.encL]
  | x :: xs, a :: ts, h => by
    have ih := rowsL_snoc (t := t) (xs := xs) (ts := ts) (by simpa using h)
    show rowD (x, a.enc) :: rowsL xs (ts ++ [t]) = rowD (x, a.enc) :: rowsL xs ts ++ _
    rw [ih]
    rfl
theorem rowsL_flat (xs : List Str) (ts : List Tr) : flatDs (rowsL xs ts) = true := flatDs_of _ fun d hd => by
  obtain ⟨p, hp, rfl⟩ := List.mem_map.mp hd
  have h := (List.of_mem_zip (show (p.1, p.2) ∈ xs.zip (Tr.encL ts) from hp)).2
  have := flatDs_all (flat_encL ts) _ h
  simp [rowD, flatD, flatDs, this]
end Cm

set_option linter.all false
/-! the names that forms bind -/
namespace Cm
open PySem L2 PySem.Spec PyProof.Rows
/-- the names that a form binds -/
def held : Hd → List Str
  | .fn xs => xs
  | .one w x => if w = "set" then [] else [x]
  | .bind _ xs => xs
  | _ => []
def isLet : Hd → Bool
  | .bind w _ => decide (w = "let")
  | _ => false
def isTak : Hd → Bool
  | .one w _ => !decide (w = "set")
  | _ => false
def isFn (h : Hd) : Bool := kd h == 4
def isName (h : Hd) : Bool := kd h == 1
/-- .. over the i-th of n parts -/
def under (h : Hd) (n i : Nat) : List Str := if isLet h = true ∧ i + 1 < n then [] else held h
def bnds (h : Hd) (n : Nat) : List PyData := (List.range n).map fun i => encs (under h n i)
theorem under_no {h : Hd} (e : isLet h = false) (n i : Nat) : under h n i = held h := by
  unfold under
  rw [e, if_neg (fun z => Bool.false_ne_true z.1)]
theorem bnds_no {h : Hd} (e : isLet h = false) (n : Nat) : bnds h n = List.replicate n (encs (held h)) := by
  unfold bnds
  have : (fun i => encs (under h n i)) = fun _ => encs (held h) := by
    funext i
    rw [under_no e]
  rw [this, List.map_const', List.length_range]
theorem bnds_let {h : Hd} (e : isLet h = true) (n : Nat) : bnds h (n + 1) = List.replicate n (encs []) ++ [encs (held h)] := by
  unfold bnds
  rw [List.range_succ, List.map_append]
  have h1 : (List.range n).map (fun i => encs (under h (n + 1) i)) = List.replicate n (encs []) := by
    have : (List.range n).map (fun i => encs (under h (n + 1) i)) = (List.range n).map (fun _ => encs []) := List.map_congr_left fun i hi => by
      have := List.mem_range.mp hi
      unfold under
      rw [if_pos ⟨e, by omega⟩]
    rw [this, List.map_const', List.length_range]
  rw [h1]
  congr 1
  show [encs (under h (n + 1) n)] = _
  unfold under
  rw [if_neg (fun z => by omega)]
theorem flat_bnds (h : Hd) (n : Nat) : flatDs (bnds h n) = true := flatDs_of _ fun d hd => by
  obtain ⟨i, _, rfl⟩ := List.mem_map.mp hd
  exact flat_strs _
theorem under_at {h : Hd} {n i : Nat} (hi : i < n) : (bnds h n)[i]? = some (encs (under h n i)) := by
  unfold bnds
  rw [List.getElem?_map, List.getElem?_range hi]
  rfl
theorem under_len {h : Hd} {m : Nat} (o : hok h m) (l : m ≤ 11) (n i : Nat) : (under h n i).length ≤ 100 := by
  unfold under
  split
  · exact Nat.zero_le _
  · cases h with
    | fn xs => exact o.2.1
    | one w x =>
      show (if w = "set" then [] else [x] : List Str).length ≤ 100
      split
      · exact Nat.zero_le _
      · exact (by decide : 1 ≤ 100)
    | bind w xs =>
      have := o.1
      show xs.length ≤ 100
      omega
    | _ => exact Nat.zero_le _
theorem held_sok {h : Hd} {m : Nat} (o : hok h m) : ∀ x ∈ held h, sok x := by
  cases h with
  | fn xs => exact o.2.2
  | one w x =>
    show ∀ y ∈ (if w = "set" then [] else [x] : List Str), sok y
    split
    · intro y hy; cases hy
    · intro y hy
      rw [List.mem_singleton.mp hy]
      exact o.2.2
  | bind w xs => exact o.2.2
  | _ => intro y hy; cases hy
section
variable {h : Hd} {n : Nat}
theorem eq_fn (o : hok h n) : decide (V.str (wd h) = V.str "fn") = isFn h := by
  rw [decS]
  exact by_kind (fun w => decide (w = "fn")) (fun k => k == 4) (by decide +kernel) o
theorem eq_name (o : hok h n) : decide (V.str (wd h) = V.str "name") = isName h := by
  rw [decS]
  exact by_kind (fun w => decide (w = "name")) (fun k => k == 1) (by decide +kernel) o
theorem in_T (o : hok h n) : inV (.str (wd h)) ((["keep", "once", "take"] : List Str).map V.str) = isTak h := by
  have other : kd h ≠ 3 → inV (.str (wd h)) ((["keep", "once", "take"] : List Str).map V.str) = false := fun q => by
    have key : ∀ c < 10, c ≠ 3 → ∀ w ∈ wordsOf c, inV (.str w) ((["keep", "once", "take"] : List Str).map V.str) = false := by decide +kernel
    exact key _ (wd_mem o).1 q _ (wd_mem o).2
  cases h with
  | one w x =>
    have key : ∀ w ∈ oneW, inV (.str w) ((["keep", "once", "take"] : List Str).map V.str) = !decide (w = "set") := by decide +kernel
    exact key w o.2.1
  | num i => exact other (Nat.ne_of_beq_eq_false rfl)
  | name i => exact other (Nat.ne_of_beq_eq_false rfl)
  | lit i => exact other (Nat.ne_of_beq_eq_false rfl)
  | fn i => exact other (Nat.ne_of_beq_eq_false rfl)
  | bind i _ => exact other (Nat.ne_of_beq_eq_false rfl)
  | doo => exact other (Nat.ne_of_beq_eq_false rfl)
  | call => exact other (Nat.ne_of_beq_eq_false rfl)
  | op i => exact other (Nat.ne_of_beq_eq_false rfl)
  | plain i => exact other (Nat.ne_of_beq_eq_false rfl)
theorem eq_set (o : hok h n) : decide (V.str (wd h) = V.str "set") = (kd h == 3 && !isTak h) := by
  have other : kd h ≠ 3 → decide (wd h = "set") = false := fun q => by
    have key : ∀ c < 10, c ≠ 3 → ∀ w ∈ wordsOf c, decide (w = ("set" : Str)) = false := by decide +kernel
    exact key _ (wd_mem o).1 q _ (wd_mem o).2
  rw [decS]
  cases h with
  | one w x =>
    show decide (w = "set") = (true && !(!decide (w = "set")))
    rw [Bool.not_not, Bool.true_and]
  | num i => exact other (Nat.ne_of_beq_eq_false rfl)
  | name i => exact other (Nat.ne_of_beq_eq_false rfl)
  | lit i => exact other (Nat.ne_of_beq_eq_false rfl)
  | fn i => exact other (Nat.ne_of_beq_eq_false rfl)
  | bind i _ => exact other (Nat.ne_of_beq_eq_false rfl)
  | doo => exact other (Nat.ne_of_beq_eq_false rfl)
  | call => exact other (Nat.ne_of_beq_eq_false rfl)
  | op i => exact other (Nat.ne_of_beq_eq_false rfl)
  | plain i => exact other (Nat.ne_of_beq_eq_false rfl)
theorem eq_let (o : hok h n) : decide (V.str (wd h) = V.str "let") = isLet h := by
  have other : kd h ≠ 5 → decide (wd h = "let") = false := fun q => by
    have key : ∀ c < 10, c ≠ 5 → ∀ w ∈ wordsOf c, decide (w = ("let" : Str)) = false := by decide +kernel
    exact key _ (wd_mem o).1 q _ (wd_mem o).2
  rw [decS]
  cases h with
  | bind w x => rfl
  | num i => exact other (Nat.ne_of_beq_eq_false rfl)
  | name i => exact other (Nat.ne_of_beq_eq_false rfl)
  | lit i => exact other (Nat.ne_of_beq_eq_false rfl)
  | fn i => exact other (Nat.ne_of_beq_eq_false rfl)
  | one i _ => exact other (Nat.ne_of_beq_eq_false rfl)
  | doo => exact other (Nat.ne_of_beq_eq_false rfl)
  | call => exact other (Nat.ne_of_beq_eq_false rfl)
  | op i => exact other (Nat.ne_of_beq_eq_false rfl)
  | plain i => exact other (Nat.ne_of_beq_eq_false rfl)
end
/-- the names that a tree names (or sets alone), as the form of a list -/
def own (sa : Bool) : Hd → List Str
  | .name x => if sa = true then [] else [x]
  | .one w x => if w = "set" then [x] else []
  | _ => []
mutual
def Tr.free (sa : Bool) : Tr → List Str
  | .mk h ps => own sa h ++ Tr.frees sa h ps.length 0 ps
def Tr.frees (sa : Bool) (h : Hd) (n : Nat) : Nat → List Tr → List Str
  | _, [] => []
  | i, t :: ts => (t.free sa).filter (fun x => !decide (x ∈ under h n i)) ++ Tr.frees sa h n (i + 1) ts
end
theorem frees_snoc (sa : Bool) (h : Hd) (n : Nat) (t : Tr) : ∀ (ts : List Tr) (i : Nat), Tr.frees sa h n i (ts ++ [t]) = Tr.frees sa h n i ts ++ (t.free sa).filter (fun x => !decide (x ∈ under h n (i + ts.length)))
  | [], i => by
    show (t.free sa).filter _ ++ [] = [] ++ _
    simp
  | a :: ts, i => by
    show (a.free sa).filter _ ++ Tr.frees sa h n (i + 1) (ts ++ [t]) = ((a.free sa).filter _ ++ Tr.frees sa h n (i + 1) ts) ++ _
    rw [frees_snoc sa h n t ts (i + 1), List.append_assoc, List.length_cons, show i + 1 + ts.length = i + (ts.length + 1) by omega]
theorem own_len (sa : Bool) (h : Hd) : (own sa h).length ≤ 1 := by
  cases h with
  | name x => show (if sa = true then [] else [x] : List Str).length ≤ 1; split <;> simp
  | one w x => show (if w = "set" then [x] else [] : List Str).length ≤ 1; split <;> simp
  | _ => exact Nat.zero_le _
mutual
theorem free_len (sa : Bool) : ∀ t : Tr, (t.free sa).length ≤ t.size
  | .mk h ps => by
    have h1 := own_len sa h
    have h2 := frees_len sa h ps.length 0 ps
    show (own sa h ++ Tr.frees sa h ps.length 0 ps).length ≤ Tr.sizes ps + 1
    rw [List.length_append]
    omega
theorem frees_len (sa : Bool) (h : Hd) (n : Nat) : ∀ (i : Nat) (ts : List Tr), (Tr.frees sa h n i ts).length ≤ Tr.sizes ts
  | _, [] => Nat.le_refl _
  | i, t :: ts => by
    have h1 := free_len sa t
    have h2 := frees_len sa h n (i + 1) ts
    have h3 := List.length_filter_le (fun x => !decide (x ∈ under h n i)) (t.free sa)
    show ((t.free sa).filter _ ++ Tr.frees sa h n (i + 1) ts).length ≤ t.size + Tr.sizes ts
    rw [List.length_append]
    omega
end
mutual
theorem free_sok (sa : Bool) : ∀ t : Tr, t.ok → ∀ x ∈ t.free sa, sok x
  | .mk h ps, o, x, m => by
    have o' : hok h ps.length ∧ ps.length ≤ 11 ∧ Tr.oks ps := o
    have m' : x ∈ own sa h ++ Tr.frees sa h ps.length 0 ps := m
    rcases List.mem_append.mp m' with m' | m'
    · cases h with
      | name y =>
        have m2 : x ∈ (if sa = true then [] else [y] : List Str) := m'
        split at m2
        · cases m2
        · rw [List.mem_singleton.mp m2]
          exact o'.1.2
      | one w y =>
        have m2 : x ∈ (if w = "set" then [y] else [] : List Str) := m'
        split at m2
        · rw [List.mem_singleton.mp m2]
          exact o'.1.2.2
        · cases m2
      | _ => cases m'
    · exact frees_sok sa h ps.length 0 ps o'.2.2 x m'
theorem frees_sok (sa : Bool) (h : Hd) (n : Nat) : ∀ (i : Nat) (ts : List Tr), Tr.oks ts → ∀ x ∈ Tr.frees sa h n i ts, sok x
  | _, [], _, _, m => by cases m
  | i, t :: ts, o, x, m => by
    have m' : x ∈ (t.free sa).filter (fun x => !decide (x ∈ under h n i)) ++ Tr.frees sa h n (i + 1) ts := m
    rcases List.mem_append.mp m' with m' | m'
    · exact free_sok sa t o.1 x (List.mem_filter.mp m').1
    · exact frees_sok sa h n (i + 1) ts o.2 x m'
end
end Cm

set_option linter.all false
/-! own exceptions that are made as values, their fields, isinstance of them -/
namespace Cm
open PySem L2 PySem.Spec PyProof.Rows
/-- a made exception with fields fs -/
def ExV (H : Hp) (a C : Addr) (fs : List (Str × V)) : Prop := ∃ d, H a = some (exo a C (some d)) ∧ H d = some (exd d fs)
theorem ExV.same {H H' : Hp} {a C : Addr} {fs : List (Str × V)} (x : ExV H a C fs) (s : Same H H') : ExV H' a C fs := by
  obtain ⟨d, e1, e2⟩ := x
  exact ⟨d, s _ _ e1, s _ _ e2⟩
/-- C(e, ..) as a value, C's own __init__ keeping sp -/
def tMkV (C : Addr) (sp : Sp) (ta : TA) : TE := fun σ H Q => ta σ H fun vs H1 => vs.length ≤ 1000 ∧ ∀ a, H1 a = Option.none → sp (.ref a :: vs) (upd H1 a (exo a C Option.none)) (fun v H2 => v = .non ∧ Q (.ref a) H2) E0
theorem pe_mkV {X : Cx} {x : Str} {C fI : Addr} {k : Nat} {fd : FuncData} {ps : List Str} {sp : Sp} {e : Expr} {es : List Expr} {ta : TA} {p pos : Pos} (T : OexC X.K C) (iC : PySem.W.findIn X.K (.ref C) "__init__" = some (some (.ref fI))) (tI : PySem.W.typeIn X.K (.ref fI) = some (.type "function"))
    (F1 : FnOk X.prog X.w X.K X.mg X.base CX0 k fI fd ps sp) (hr : Room (k + 1) X.A) (hb : Binds X.K fd ps []) (hg : Gl X x) (hm : X.mg x = some (.ref C)) (ha : PA X (e :: es) ta)
    (hdb : (x == ("__debug__" : Str)) = false := by decide) (he : starEach (e :: es) X.env = (false, eval e X.env) :: starEach es X.env := by rfl) (hpl : (backTo pos (starEach es X.env)).any (·.1) = false := by rfl) :
    PE X (.Call (.Name x p) (e :: es) [] pos) (tMkV C sp ta) := by
  refine ⟨fun pins s σ H Q I h => ?_⟩
  obtain ⟨nm, q, N, bs, bm, sn, sub, ab, col, dd, k0, k1, k2, k3, k5, hC, hbm⟩ := T.cls
  refine wpAny_Call_Name_kw (ld_glob I hg hm ?_ hdb)
  refine PySem.W.callWith_K (h₀ := X.base) I.ok.mod.kin T.kC (thn (ha.run pos pins s σ H _ I h) fun us s1 ⟨vs, H1, I1, r1, hz, q1⟩ => ⟨I1.kIn, ?_⟩) he hpl
  show wpAny _ _ (call (.ref C) us) _ _ _
  obtain ⟨hp, g, dr, tk, os⟩ := s1
  have hsz : hp.objs.size ≤ hp.objs.size + 1 := Nat.le_succ _
  have hq := q1 (hp.objs.size + 1) (I1.hok.fresh hsz)
  have hget : ((hp.push (PySem.W.kdv_tup us)).push (PySem.HandSPX.excO C hp.objs.size)).get? (hp.objs.size + 1) = some (PySem.HandSPX.excO C hp.objs.size) := by heap_get
  have I2 : Inv X pins σ (upd H1 (hp.objs.size + 1) (exo (hp.objs.size + 1) C Option.none)) ⟨(hp.push (PySem.W.kdv_tup us)).push (PySem.HandSPX.excO C hp.objs.size), g, dr, tk, os⟩ :=
    I1.laid (t' := tk) (a := hp.objs.size + 1) (o := exo (hp.objs.size + 1) C Option.none) (fun b o e => Heap.get?_push_of_some _ (Heap.get?_push_of_some _ e)) hsz (exo_ok hget)
  have r2 : Vals (V.ref (hp.objs.size + 1) :: vs) (Value.ref (hp.objs.size + 1) :: us) := .cons rfl r1
  have hl : (Value.ref (hp.objs.size + 1) :: us).length = ps.length := by
    have e := r2.length
    rw [F1.len _ _ _ _ hq] at e
    exact e.symm
  have hus : us.length ≤ sizeLine := by
    rw [← Paired.length r1, sizeLine_eq]
    omega
  have hbb := hb ⟨(hp.push (PySem.W.kdv_tup us)).push (PySem.HandSPX.excO C hp.objs.size), g, dr, tk, os⟩ (Value.ref (hp.objs.size + 1) :: us) I2.kIn (by rw [List.append_nil]; exact hl)
  rw [List.append_nil] at hbb
  refine wpAny_call (PySem.HandSPX.call_own F.excBase_ValueError (fun Y => PySem.HandSPX.refsVE_contains Y bm hbm) (I1.kIn _ _ hC) (PySem.W.looks_findIn I1.kIn iC) (fun self => PySem.W.bind_fn I1.kIn self tI) hus
    (codeAny_mono (F1.run _ X.stack _ _ ⟨Value.ref (hp.objs.size + 1) :: us, []⟩ (Value.ref (hp.objs.size + 1) :: us) _ _ E0 (hr.make C us []) (I2.env0.make C us []) hbb r2 hq) fun r s' hq' => ?_))
  cases r with
  | error er => exact pass0 pins σ _ _ er s' I2 hq'
  | ok fl =>
    cases fl with
    | ret u =>
      obtain ⟨v, H2, J, rv, ev, q2⟩ := I2.after hq'
      subst ev
      exact ⟨rv, .ref (hp.objs.size + 1), H2, J, rfl, q2⟩
    | next => exact False.elim hq'
    | brk => exact False.elim hq'
    | cont => exact False.elim hq'
/-! ### x.f -/
def tFldE (K : PySem.W.Frag) (f : Str) (te : TE) : TE := fun σ H Q => te σ H fun x H1 => ∃ (a C : Addr) (fs : List (Str × V)) (v : V), x = .ref a ∧ XfC K C ∧ PySem.W.findIn K (.ref C) f = some Option.none ∧ ExV H1 a C fs ∧ fs.lookup f = some v ∧ Q v H1
theorem pe_fldE {X : Cx} {e : Expr} {te : TE} {pos : Pos} {n : Str} (he : PE X e te) (hb : attributeBase e n X.env (eval e X.env) = eval e X.env := by rfl) : PE X (.Attribute e n pos) (tFldE X.K n te) := by
  refine ⟨fun pins s σ H Q I h => ?_⟩
  refine attr_of hb (thn (he.run pins s σ H _ I h) fun u s1 hh => ?_)
  obtain ⟨x, H1, I1, rx, a, C, fs, v, ex, T, hno, ⟨dd, eh, ea⟩, l, q⟩ := hh
  subst ex
  obtain rfl : u = Value.ref a := rx
  obtain ⟨t1, ho⟩ := exo_at I1.hok eh
  obtain ⟨mA, hns, hr⟩ := exd_at I1.hok ea
  obtain ⟨od, hod, hl⟩ := lookIn_ns hns
  obtain ⟨u, hu, ru⟩ := RelO.some_of (v := v) (o := mA n) (by rw [← l]; exact hr n)
  have J : PySem.W.InstAt s1.heap a { cls := .ref C, dict := some dd, data := .fields #[.ref t1, .none, .none, .none, .bool false, .none] } C (some od) := ⟨ho, rfl, rfl, hod⟩
  exact HandSPX.exc_get I1.kIn J T.ga T.gg T.exC (PySem.W.findObj_own T.hdC hno rfl (by rw [hl, hu])) (handed_of ru) ⟨v, H1, I1.tok _, ru, q⟩
end Cm
/-! ### isinstance(x, D), whichever class (after the library's rule for an exception without a dict) -/
namespace PySem.W
open PySem PySem.Spec PySem.Calls PyProof.Rows
theorem cls_ofExc {prog : Program} {w : World} {A : Around} {E : Value → Shared → Prop} {s : Shared} {K : Frag} {x D : Addr} {ox od : Obj} {Q : Option Value → Shared → Prop} (T : L2.ExcC K D) (X : K.In s.heap) (I : InstAt s.heap x ox D (some od))
    (h : Q (some (.ref D)) { s with toks := s.toks + 1 }) : wpAny (model prog w) A (getAttr? (.ref x) "__class__") Q E s := by
  have hf : findObj K D (some od) "__class__" = some (.bind (.builtin "getset_descriptor.__get__") (.builtin "object.__class__")) := findObj_data (by obtain ⟨cd, hc, _⟩ := any_some T.hd; rw [hc]; rfl) T.ha T.hn T.ht
  obtain ⟨hp, g, d, t, os⟩ := s
  have L0 := I.type (M := model prog w)
  have L1 := looks_findIn (M := model prog w) X T.hg
  have L2 := looks_findIn (M := model prog w) X T.hk
  have L3 := looks_find (M := model prog w) X I hf
  have sub : Looks (model prog w) hp (isInstance (.ref x) (.type "BaseException")) true := L0.andThen (looks_subIn X T.hs)
  have ne : (Value.builtin "BaseException.__getattribute__" == Value.builtin "object.__getattribute__") = false := by decide +kernel
  unfold getAttr? getAttrBy? getAttrBy
  refine wpAny_bind (wpAny_mkText (wpAny_bind (wpAny_attempt (wpAny_holding (wpAny_bind (L0.at (wpAny_bind (L1.at ?_))))))))
  show wpAny _ _ (if (onTheHeap (Value.ref D) && Value.builtin "BaseException.__getattribute__" == Value.builtin "object.__getattribute__") = true then _ else _) _ _ _
  rw [show (onTheHeap (Value.ref D) && Value.builtin "BaseException.__getattribute__" == Value.builtin "object.__getattribute__") = false by rw [ne]; rfl, if_neg Bool.false_ne_true]
  unfold getAttrByItsOwn hookBefore
  refine wpAny_bind ?_
  rw [if_pos (show onTheHeap (Value.ref D) = true from rfl)]
  refine L2.at (wpAny_bind (wpAny_attempt (wpAny_holding ?_)))
  unfold callGetattribute
  rw [show (false && onTheHeap (Value.builtin "BaseException.__getattribute__")) = false from rfl, if_neg Bool.false_ne_true]
  unfold boundAndCalled
  rw [PySem.F.excAttr_ValueError.ga.bind (.ref x)]
  refine wpAny_bind (wpAny_pure ?_)
  show wpAny _ _ (call (.builtin "BaseException.__getattribute__") [.ref x, .str "__class__" t]) _ _ _
  refine wpAny_call (codeAny_call_builtin PySem.F.excAttr_ValueError.ga.plain PySem.F.entry_bexc_ga ?_)
  refine @check_slot (model prog w) _ _ ⟨hp, g, d, t + 1, os⟩ "BaseException.__getattribute__" "BaseException" "__getattribute__" (.ref x) [.str "__class__" t] [] _ (by decide +kernel) (by decide +kernel) sub (PySem.F.args_bexc_ga (.ref x) (.str "__class__" t)) ?_
  unfold Builtin.«object.__getattribute__»
  refine wpAny_bind (wpAny_of_eq (a := ((Value.ref x : Value), [Value.str "__class__" t])) (by first | rfl | (simp only [slotArgs]; rfl)) ?_)
  refine wpAny_bind (wpAny_pure (wpAny_bind (L0.at (wpAny_bind (L3.at ?_)))))
  show wpAny _ _ (holding [Value.builtin "object.__class__"] (call (.builtin "getset_descriptor.__get__") [.builtin "object.__class__", .ref x, .ref D]) >>= ret) _ _ _
  refine wpAny_bind (wpAny_holding (wpAny_call (class_get (s := ⟨hp, g, d, t + 1, os⟩) (ox := ox) (od := some od) X I T.hm ?_)))
  refine wpAny_pure ?_
  show wpAny _ _ (handedOut (.ref D)) _ _ _
  rw [handedOut_of (v := .ref D) rfl]
  first
    | exact wpAny_pure (wpAny_pure h)
    | exact wpAny_pure h
    | exact wpAny_pure (wpAny_bind (wpAny_pure (wpAny_pure h)))
theorem kit_ofExc {K : Frag} {x D : Addr} {ox od : Obj} (T : L2.ExcC K D) : KitX K (.ref x) (.ref D) (fun h => InstAt h x ox D (some od)) where
  ty := fun _ _ _ I => I.type
  it := fun _ _ X _ => by
    obtain ⟨cdD, hcD, _⟩ := any_some T.hd
    unfold clsIn at hcD
    split at hcD
    · rename_i c' d' cd' sl' ho
      intro A' Q' E' s' k q
      unfold isType loadHead
      exact wpAny_bind (wpAny_loadPart (k _ _ (X _ _ ho)) (wpAny_pure q))
    · cases hcD
  ne := fun h tp dd its n sl X htp => by
    obtain ⟨cdD, hcD, _⟩ := any_some T.hd
    refine Bool.eq_false_iff.mpr fun q => ?_
    have e : D = tp := Value.ref.inj (beq_iff_eq.mp q)
    subst e
    unfold clsIn at hcD
    split at hcD
    · rename_i c' d' cd' sl' ho
      have z := (X _ _ ho).symm.trans htp
      cases z
    · cases hcD
  ca := fun X I k => cls_ofExc T X I k
end PySem.W
namespace Cm
open PySem L2 PySem.Spec PyProof.Rows
def rIsV (K : PySem.W.Frag) : List V → Hp → VK → Prop := fun xs H Q => ∃ (a C : Addr) (fs : List (Str × V)) (c : V) (cv : Value) (b : Bool), xs = [.ref a, c] ∧ ClsV c cv ∧ ExcC K C ∧ ExV H a C fs ∧ PySem.W.kitOne K (.ref C) cv = some b ∧ Q (.bl b) H
theorem call_isV {X : Cx} : CallR X (.builtin "isinstance") (rIsV X.K) := by
  intro pins s σ H xs us Q I r h
  obtain ⟨a, C, fs, c, cv, b, rfl, kc, T, ⟨dd, eh, ea⟩, e, q⟩ := h
  obtain ⟨u1, u2, rfl, r1, r2⟩ := vals2 r
  obtain rfl : u1 = Value.ref a := r1
  have e2 := kc.eq r2
  subst e2
  obtain ⟨t1, ho⟩ := exo_at I.hok eh
  obtain ⟨mA, hns, hr⟩ := exd_at I.hok ea
  obtain ⟨od, hod, hl⟩ := lookIn_ns hns
  have J : PySem.W.InstAt s.heap a { cls := .ref C, dict := some dd, data := .fields #[.ref t1, .none, .none, .none, .bool false, .none] } C (some od) := ⟨ho, rfl, rfl, hod⟩
  exact PySem.W.kia_one (PySem.W.kit_ofExc T) I.kIn J e (fun z => nomatch z) fun tk => ⟨.bl b, H, I.tok tk, rfl, q⟩
end Cm

set_option linter.all false
/-! classes of errors with fields: what is needed of each -/
namespace Cm
open PySem L2 PySem.Spec PyProof.Rows
/-- what an __init__ that stores its parameters leaves -/
def spI (K : PySem.W.Frag) (fl : List Str) : Sp := fun vs H Q _ => ∃ (a C : Addr) (xs : List V), vs = .ref a :: xs ∧ xs.length = fl.length ∧ OexC K C ∧ (∀ f ∈ fl, PySem.W.findIn K (.ref C) f = some Option.none) ∧ H a = some (exo a C Option.none) ∧
  ∀ (d : Addr) (H' : Hp), H d = Option.none → d ≠ a → (∀ b o, b ≠ a → H b = some o → H' b = some o) → H' a = some (exo a C (some d)) → H' d = some (exd d (fl.zip xs).reverse) → Q .non H'
structure Mk (P : Program) (w : World) (K : PySem.W.Frag) (mg : Str → Option Value) (base : Heap) (C : Addr) (x : Str) (fl : List Str) : Prop where
  oex : OexC K C
  g : mg x = some (.ref C)
  xf : XfC K C
  ec : ExcC K C
  no : ∀ f ∈ fl, PySem.W.findIn K (.ref C) f = some Option.none
  init : ∃ (fI : Addr) (fd : FuncData) (ps : List Str), PySem.W.findIn K (.ref C) "__init__" = some (some (.ref fI)) ∧ PySem.W.typeIn K (.ref fI) = some (.type "function") ∧ FnOk P w K mg base CX0 1 fI fd ps (spI K fl) ∧ Binds K fd ps []
def tMk (C : Addr) (fl : List Str) (ta : TA) : TE := fun σ H Q => ta σ H fun vs H1 => vs.length = fl.length ∧ ∀ a H', Same H1 H' → ExV H' a C (fl.zip vs).reverse → Q (.ref a) H'
theorem pe_mk {X : Cx} {x : Str} {C : Addr} {fl : List Str} {j : Nat} {e : Expr} {es : List Expr} {ta : TA} {p pos : Pos} (M : Mk X.prog X.w X.K X.mg X.base C x fl) (hr : Room j X.A) (hk : 2 ≤ j) (hl : fl.length ≤ 1000) (hg : Gl X x) (ha : PA X (e :: es) ta)
    (hdb : (x == ("__debug__" : Str)) = false := by decide) (he : starEach (e :: es) X.env = (false, eval e X.env) :: starEach es X.env := by rfl) (hpl : (backTo pos (starEach es X.env)).any (·.1) = false := by rfl) :
    PE X (.Call (.Name x p) (e :: es) [] pos) (tMk C fl ta) := by
  obtain ⟨fI, fd, ps, h1, h2, F, b⟩ := M.init
  have ha' : PA X (e :: es) (fun σ H Q => ∃ Q0, ta σ H Q0 ∧ ∀ vs H1, Q0 vs H1 → Q vs H1) := ⟨fun pos pins s σ H Q I ⟨Q0, h0, imp⟩ =>
    wpAny_mono (ha.run pos pins s σ H Q0 I h0) (fun us s1 ⟨vs, H1, I1, r, q⟩ => ⟨vs, H1, I1, r, imp _ _ q⟩) (fun _ _ z => z)⟩
  have R := pe_mkV (p := p) (pos := pos) M.oex h1 h2 F (hr.mono hk) b hg M.g ha' hdb he hpl
  refine ⟨fun pins s σ H Q I h => R.run pins s σ H Q I ⟨_, h, fun vs H1 ⟨hv, hq⟩ => ⟨by omega, fun a ha0 => ?_⟩⟩⟩
  refine ⟨a, C, vs, rfl, hv, M.oex, M.no, upd_same, fun d H' _ _ keep ea ed => ⟨rfl, hq a H' (fun b o q => ?_) ⟨d, ea, ed⟩⟩⟩
  have hb : b ≠ a := fun z => by
    rw [z, ha0] at q
    cases q
  exact keep b o hb (by rw [upd_ne hb]; exact q)
/-- self.f = x, then perhaps self.g = y -/
theorem init1 {K : PySem.W.Frag} {H : Hp} {a C : Addr} {f : Str} {x : V} {Q : Hp → Prop} (T : OexC K C) (no : PySem.W.findIn K (.ref C) f = some Option.none) (ha : H a = some (exo a C Option.none))
    (k : ∀ (d : Addr) (H' : Hp), H d = Option.none → d ≠ a → (∀ b o, b ≠ a → H b = some o → H' b = some o) → H' a = some (exo a C (some d)) → H' d = some (exd d [(f, x)]) → Q H') :
    ∃ a' C', V.ref a = .ref a' ∧ OexC K C' ∧ PySem.W.findIn K (.ref C') f = some Option.none ∧ ((H a' = some (exo a' C' Option.none) ∧ ∀ dx, H dx = Option.none → dx ≠ a' → Q (upd (upd H dx (exd dx [(f, x)])) a' (exo a' C' (some dx)))) ∨
      ∃ (dx : Addr) (fs : List (Str × V)), H a' = some (exo a' C' (some dx)) ∧ H dx = some (exd dx fs) ∧ fs.length ≤ 900 ∧ Q (upd H dx (exd dx ((f, x) :: fs)))) :=
  ⟨a, C, rfl, T, no, .inl ⟨ha, fun dx hd ne => k dx _ hd ne (fun b o hb e => by rw [upd_ne hb, upd_ne (ne_of_none e hd)]; exact e) upd_same (by rw [upd_ne ne]; exact upd_same)⟩⟩
theorem init2 {K : PySem.W.Frag} {H : Hp} {a C d : Addr} {g : Str} {y : V} {fs : List (Str × V)} {Q : Hp → Prop} (T : OexC K C) (no : PySem.W.findIn K (.ref C) g = some Option.none) (ha : H a = some (exo a C (some d))) (hd : H d = some (exd d fs)) (hl : fs.length ≤ 900) (ne : d ≠ a)
    (k : (∀ b o, b ≠ d → H b = some o → (upd H d (exd d ((g, y) :: fs))) b = some o) → Q (upd H d (exd d ((g, y) :: fs)))) :
    ∃ a' C', V.ref a = .ref a' ∧ OexC K C' ∧ PySem.W.findIn K (.ref C') g = some Option.none ∧ ((H a' = some (exo a' C' Option.none) ∧ ∀ dx, H dx = Option.none → dx ≠ a' → Q (upd (upd H dx (exd dx [(g, y)])) a' (exo a' C' (some dx)))) ∨
      ∃ (dx : Addr) (fs : List (Str × V)), H a' = some (exo a' C' (some dx)) ∧ H dx = some (exd dx fs) ∧ fs.length ≤ 900 ∧ Q (upd H dx (exd dx ((g, y) :: fs)))) :=
  ⟨a, C, rfl, T, no, .inr ⟨d, fs, ha, hd, hl, k fun b o hb e => by rw [upd_ne hb]; exact e⟩⟩
end Cm

set_option linter.all false
/-! an error without arguments; isinstance of errors of any kind -/
namespace Cm
open PySem L2 PySem.Spec PyProof.Rows
theorem pe_exc0 {X : Cx} {C : Addr} {bmB : List Value} {B newId initId : String} {x : Str} {p pos : Pos} (F : ExcBaseFacts B newId initId bmB) (q : PySem.W.excIn X.K C bmB newId = true) (gC : X.mg x = some (.ref C)) (kC : PySem.W.keepIn X.K (.ref C) = true) (hg : Gl X x)
    (hdb : (x == ("__debug__" : Str)) = false := by decide) :
    PE X (.Call (.Name x p) [] [] pos) (fun _ H Q => ∀ a, H a = Option.none → Q (.ref a) (upd H a (ExO (.ref C) a))) := by
  refine ⟨fun pins s σ H Q I h => ?_⟩
  refine wpAny_Call_Name_kw (ld_glob I hg gC ?_ hdb)
  refine PySem.W.callWith_K0 I.kIn kC ?_
  show wpAny _ _ (call (.ref C) []) _ _ _
  obtain ⟨bm, N, nm, qn, bs, hdct, sn, sub, ab, col, dd, k0, k1, k2, k3, k5, mN, hC, hN, hni, T⟩ := exc_obj I.kIn q
  refine wpAny_call_exc_subT F T hC hN hni (fun h' a hm => ?_) (by show 0 ≤ sizeLine; rw [sizeLine_eq]; omega)
  have hn : H a = Option.none := I.hok.gone hm.new
  obtain ⟨t, ht, _, _⟩ := hm.there
  exact ⟨.ref a, upd H a (ExO (.ref C) a), I.laidN hm.keeps hm.new hn (exO_ok ht ⟨rfl, rfl⟩ rfl rfl rfl (show 4 < 6 by decide)), rfl, h a hn⟩
/-- an error: with a dict, without, or kept behind a try -/
def ExA (H : Hp) (a C : Addr) : Prop := (∃ fs, ExV H a C fs) ∨ H a = some (ExO (.ref C) a) ∨ ∃ dd fs, H a = some (ExH a (.ref C) (some dd)) ∧ H dd = some (.xd fs)
theorem ExA.same {H H' : Hp} {a C : Addr} (x : ExA H a C) (s : Same H H') : ExA H' a C := by
  rcases x with ⟨fs, x⟩ | x | ⟨dd, fs, x, y⟩
  · exact .inl ⟨fs, x.same s⟩
  · exact .inr (.inl (s _ _ x))
  · exact .inr (.inr ⟨dd, fs, s _ _ x, s _ _ y⟩)
def rIsA (K : PySem.W.Frag) : List V → Hp → VK → Prop := fun xs H Q => ∃ (a C : Addr) (c : V) (cv : Value) (b : Bool), xs = [.ref a, c] ∧ ClsV c cv ∧ ExcC K C ∧ ExA H a C ∧ PySem.W.kitOne K (.ref C) cv = some b ∧ Q (.bl b) H
theorem call_isA {X : Cx} : CallR X (.builtin "isinstance") (rIsA X.K) := by
  intro pins s σ H xs us Q I r h
  obtain ⟨a, C, c, cv, b, rfl, kc, T, x, e, q⟩ := h
  rcases x with ⟨fs, x⟩ | x | ⟨dd, fs, eh, ea⟩
  · exact call_isV pins s σ H _ us Q I r ⟨a, C, fs, c, cv, b, rfl, kc, T, x, e, q⟩
  · obtain ⟨u1, u2, rfl, r1, r2⟩ := vals2 r
    obtain rfl : u1 = Value.ref a := r1
    have e2 := kc.eq r2
    subst e2
    have hx : ObjOk X.prog X.w H s.heap a (ExO (.ref C) a) := I.hok a _ x
    obtain ⟨oe, vs, ho, hz, hd, _⟩ := hx.1
    have J : PySem.W.InstAt s.heap a oe C Option.none := ⟨ho, hz.1, by unfold PySem.W.notCls; rw [hd] <;> rfl, by rw [hz.2]; trivial⟩
    exact PySem.W.kia_one (PySem.W.handS_kitx_exc T.hg T.hk T.hs T.hd T.ha T.hn T.ht T.hm) I.kIn J e (fun z => nomatch z) fun tk => ⟨.bl b, H, I.tok tk, rfl, q⟩
  · obtain ⟨u1, u2, rfl, r1, r2⟩ := vals2 r
    obtain rfl : u1 = Value.ref a := r1
    have e2 := kc.eq r2
    subst e2
    obtain ⟨oe, vs, ho, hz, hd⟩ := exH_at I.hok eh
    have hx : ObjOk X.prog X.w H s.heap dd (.xd fs) := I.hok dd _ ea
    obtain ⟨mA, hns, hr⟩ := hx
    obtain ⟨od, hod, hl⟩ := lookIn_ns hns
    have J : PySem.W.InstAt s.heap a oe C (some od) := ⟨ho, hz.1, by unfold PySem.W.notCls; rw [hd] <;> rfl, by rw [hz.2]; exact hod⟩
    exact PySem.W.kia_one (PySem.W.kit_ofExc T) I.kIn J e (fun z => nomatch z) fun tk => ⟨.bl b, H, I.tok tk, rfl, q⟩
end Cm

set_option linter.all false
/-! raise C(x, ..); try with two clauses of which the second catches and keeps -/
namespace Cm
open PySem L2 PySem.Spec PyProof.Rows
def tRaiseMk (C : Addr) (fl : List Str) (W : WX) (ta : TA) : TS := fun _ σ H => ta σ H fun vs H1 => vs.length = fl.length ∧ ∀ (d : Addr) (H' : Hp), Same H1 H' → H' d = some (.xd (fl.zip vs).reverse) → W (.ref C) (some d) σ H'
theorem ps_raiseMk {X : Cx} {x : Str} {C : Addr} {fl : List Str} {j : Nat} {W : WX} {e : Expr} {es : List Expr} {ta : TA} {p pos pos2 : Pos} (hc : X.calm = true) (M : Mk X.prog X.w X.K X.mg X.base C x fl) (hr : Room j X.A) (hk : 2 ≤ j) (hl : fl.length ≤ 1000) (tk : Takes X W) (hg : Gl X x) (ha : PA X (e :: es) ta)
    (hdb : (x == ("__debug__" : Str)) = false := by decide) (he : starEach (e :: es) X.env = (false, eval e X.env) :: starEach es X.env := by rfl) (hpl : (backTo pos (starEach es X.env)).any (·.1) = false := by rfl) :
    PS X (.Raise (some (.Call (.Name x p) (e :: es) [] pos)) Option.none pos2) (tRaiseMk C fl W ta) := by
  obtain ⟨fI, fd, ps, h1, h2, F, b⟩ := M.init
  have ha' : PA X (e :: es) (fun σ H Q => ∃ Q0, ta σ H Q0 ∧ ∀ vs H1, Q0 vs H1 → Q vs H1) := ⟨fun pos pins s σ H Q I ⟨Q0, h0, imp⟩ =>
    wpAny_mono (ha.run pos pins s σ H Q0 I h0) (fun us s1 ⟨vs, H1, I1, r, q⟩ => ⟨vs, H1, I1, r, imp _ _ q⟩) (fun _ _ z => z)⟩
  have R := ps_raise (pos := pos2) hc tk (pmk_oex (p := p) (pos := pos) M.oex h1 h2 F (hr.mono hk) b .nil (fun _ _ _ _ _ _ _ z => z.elim) hg M.g ha' hdb he hpl)
  refine ⟨fun pins s σ H D I h => R.run pins s σ H D I ⟨_, h, fun vs H1 ⟨hv, hq⟩ => ⟨by omega, fun a ha0 => ?_⟩⟩⟩
  refine ⟨a, C, vs, by rw [List.append_nil], hv, M.oex, M.no, upd_same, fun d H' hd ne keep ea ed => ⟨rfl, d, _, ea, ed, ?_, ?_⟩⟩
  · rw [upd_ne ne] at hd
    exact hd
  · have hd1 : H1 d = Option.none := by rw [upd_ne ne] at hd; exact hd
    refine hq d _ (fun b o q => ?_) upd_same
    have hb : b ≠ a := fun z => by
      rw [z, ha0] at q
      cases q
    rw [upd_ne (ne_of_none q hd1), del_ne hb]
    exact keep b o hb (by rw [upd_ne hb]; exact q)
/-- .. of two clauses, the second catches -/
def wHeld2 (K : PySem.W.Frag) (c1 c : Value) (i : Nat) (ts : Addr → TS) (D : Ends) : WX := fun cls d σ H =>
  PySem.W.exmOne K cls c1 = some false ∧ PySem.W.exmOne K cls c = some true ∧ ∀ a, H a = Option.none → ts a { nx := fun σ' H' => D.nx (σ'.set i Option.none) H', rt := D.rt, bk := fun σ' H' => D.bk (σ'.set i Option.none) H', ct := fun σ' H' => D.ct (σ'.set i Option.none) H' } (σ.set i (some (.ref a))) (upd H a (ExH a cls d))
section
variable {X : Cx} {x n x1 n1 : Str} {c c1 : Value} {i : Nat} {body suite suite1 : List Stmt} {b₀ b1 : Stmt} {np pos pos' np1 pos1 : Pos} {tb : WX → TS} {ts : Addr → TS}
theorem ps_try_held2 (hs : X.stack = X.env :: X.outer) (hf : X.env.frame = some X.env.locals) (hN : X.N.Nodup) (hi : X.N[i]? = some n) (hln : X.env.kindOf n = some .local) (hc1 : Names X x1 c1) (hc : Names X x c) (hex : X.ex = [])
    (hb : ∀ (W : WX) (pn : List (Addr × Obj)) (xe : Value → Shared → Prop), Takes (X.tr pn xe) W → PassesOwn (model X.prog X.w) X.A X.env xe → PSs (X.tr pn xe) body (tb W))
    (hsu : ∀ (a : Addr) (pn : List (Addr × Obj)), PSs (X.suite a pn) (b₀ :: suite) (ts a)) :
    PS X (.Try body [.ExceptHandler (some (.Name x1 np1)) (some n1) (b1 :: suite1) pos1, .ExceptHandler (some (.Name x np)) (some n) (b₀ :: suite) pos'] [] [] pos) (fun D σ H => tb (wHeld2 X.K c1 c i ts D) D σ H) := by
  refine ⟨fun pins s σ H D I h => ?_⟩
  have ok := I.ok
  have hfr : X.A.frames = some (X.env :: X.outer) := by rw [ok.frames, hs]
  refine wpAny_Try_except ?_
  refine wpAny_mono ((hb (wHeld2 X.K c1 c i ts D) (X.pn ++ pins) (fun e s₁ => wpAny (model X.prog X.w) X.A (noteFrame e X.env) (fun _ s₂ => wpAny (model X.prog X.w) X.A (setFlight e Option.none) (fun _ s₃ =>
    wpAny (model X.prog X.w) X.A (handleBy e X.env [.ExceptHandler (some (.Name x1 np1)) (some n1) (b1 :: suite1) pos1, .ExceptHandler (some (.Name x np)) (some n) (b₀ :: suite) pos']) (SP X pins D) X.xe s₃) X.xe s₂) X.xe s₁) (fun u s' xx => ?_) PassesOwn.looking).run [] s σ H D (I.toTry _) h) (fun f s1 hsp => ?_) (fun e s1 he => he)
  · obtain ⟨a, B, sI, pins', σ', H', cls, d, rfl, J', nb, up, sky, na, os, ag, hb0, hb1, hyes⟩ := xx
    have J : Inv X pins σ' H' sI := J'.ofTry ok
    have sky' : Sky B (X.env :: X.outer) a (Zc cls d) X.env.locals s'.heap := by rw [← hs]; exact sky
    show wpAny _ _ (noteFrame (.ref a) X.env) _ _ _
    refine Sky.land Zc.steady hfr hf sky' fun h3 fl3 up3 => ?_
    have J3 : Inv X pins σ' H' { s' with heap := h3 } := J.landed nb fl3.1 (up.trans up3) os ag
    obtain ⟨oe3, vs3, he3, hz3, hd3⟩ := fl3.there
    have nfr : a ∉ frs X.stack := fun hm => by
      rw [hs] at hm
      obtain ⟨_, o', e', hnf⟩ := fl3.2.2.1.mem hm
      rw [he3] at e'
      cases e'
      exact hnf _ hd3
    have nsI : sI.heap.get? a = Option.none := by
      cases q : sI.heap.get? a with
      | none => rfl
      | some o =>
        have z := nb a o q nfr
        rw [fl3.2.1] at z
        cases z
    have n0 : X.s_0.heap.get? a = Option.none := by
      cases q : X.s_0.heap.get? a with
      | none => rfl
      | some o =>
        obtain ⟨o', z⟩ := J.base.there a o q (by rw [hex]; exact List.not_mem_nil)
        rw [nsI] at z
        cases z
    have nL : a ≠ X.env.locals := fun z => nfr (by
      rw [hs]
      exact List.mem_filterMap.mpr ⟨X.env, List.mem_cons_self, by rw [hf, z]⟩)
    have nC : ∀ y c, X.env.cells.lookup y = some c → c ≠ a := fun y c e z => by
      obtain ⟨v, o, ho, _⟩ := J.cell y c e
      rw [z, nsI] at ho
      cases ho
    have nP : ∀ p ∈ X.pn ++ pins, p.1 ≠ a := fun p hp z => by
      have q := (J.pin p hp).1
      rw [z, nsI] at q
      cases q
    have S3 := suite0 J3 a
    refine wpAny_handleBy_cons (codeAny_handlers_test ?_) (by intro q; cases q)
    have LT : PySem.W.Looks (model X.prog X.w) h3 (typeOf (.ref a)) cls := fun A Q E s k q => wpAny_typeOf_ref (k _ _ he3) (by rw [hz3.1]; exact q)
    have LM0 := PySem.W.exm_one (M := model X.prog X.w) (J3.kIn) LT hb0
    have test1 : ∀ {Q : Value → Shared → Prop} {E : Value → Shared → Prop}, Q c1 { s' with heap := h3 } → wpAny (model X.prog X.w) (X.A.mark (some (.ref a))) (eval (.Name x1 np1) X.env) Q E { s' with heap := h3 } := fun {Q E} q => by
      obtain ⟨hg, hdbg, hm | ⟨hm, hv, hnn⟩⟩ := hc1
      · exact ld_glob (X := X.suite a (X.pn ++ pins)) S3 hg hm q hdbg
      · exact ld_blt (X := X.suite a (X.pn ++ pins)) S3 hg hm hv q hnn hdbg
    refine test1 (LM0.here ?_)
    show wpAny _ X.A (handleBy (.ref a) X.env [.ExceptHandler (some (.Name x np)) (some n) (b₀ :: suite) pos']) _ _ _
    refine wpAny_handleBy_cons (codeAny_handlers_test ?_) (by intro q; cases q)
    have LM := PySem.W.exm_one (M := model X.prog X.w) (J3.kIn) LT hb1
    have test : ∀ {Q : Value → Shared → Prop} {E : Value → Shared → Prop}, Q c { s' with heap := h3 } → wpAny (model X.prog X.w) (X.A.mark (some (.ref a))) (eval (.Name x np) X.env) Q E { s' with heap := h3 } := fun {Q E} q => by
      obtain ⟨hg, hdbg, hm | ⟨hm, hv, hnn⟩⟩ := hc
      · exact ld_glob (X := X.suite a (X.pn ++ pins)) S3 hg hm q hdbg
      · exact ld_blt (X := X.suite a (X.pn ++ pins)) S3 hg hm hv q hnn hdbg
    refine test (LM.here ?_)
    refine codeAny_handlers_suite_as ?_
    refine HandSPX.lands_againZ fl3 fun h4 fl4 up4 => ?_
    have J4 : Inv X pins σ' H' { s' with heap := h4 } := J.landed nb fl4.1 ((up.trans up3).trans up4) os ag
    obtain ⟨oe4, vs4, he4, hz4, hd4⟩ := fl4.there
    have T4 := track (o := ExH a cls d) J4 na n0 nL nC nP (exH_ok he4 hz4 hd4)
    have S4 := suite0 T4 a
    refine store_ok (X := X.suite a (X.pn ++ pins)) (v := .ref a) S4 hN hi (.inl hln) rfl (fun s5 S5 => ?_) (.inr hln)
    refine wpAny_mono ((hsu a (X.pn ++ pins)).run [] s5 _ _ _ S5 (hyes a na)) (fun f s6 hsp => ?_) (fun _ _ z => False.elim z)
    have end_ : ∀ {σ6 : L2.St} {H6 : Hp} {Q : Shared → Prop}, Inv (X.suite a (X.pn ++ pins)) [] σ6 H6 s6 → (∀ s7, Inv X pins (σ6.set i Option.none) H6 s7 → Q s7) →
        wpAny (model X.prog X.w) X.A (do bindName X.env n .none; unbindBehindTheSuite X.env n pos') (fun _ s7 => Q s7) X.xe s6 := fun {σ6 H6 Q} S6 hq => gone_ok (unsuite0 S6 ok) hN hi hln hq
    cases f with
    | next =>
      obtain ⟨σ6, H6, S6, q6⟩ := hsp
      exact end_ S6 fun s7 J7 => ⟨_, _, J7, q6⟩
    | brk =>
      obtain ⟨σ6, H6, S6, q6⟩ := hsp
      exact end_ S6 fun s7 J7 => ⟨_, _, J7, q6⟩
    | cont =>
      obtain ⟨σ6, H6, S6, q6⟩ := hsp
      exact end_ S6 fun s7 J7 => ⟨_, _, J7, q6⟩
    | ret u =>
      obtain ⟨v6, σ6, H6, S6, r6, q6⟩ := hsp
      exact end_ S6 fun s7 J7 => ⟨_, _, _, J7, r6, q6⟩
  · cases f with
    | next =>
      obtain ⟨σ', H', J', q⟩ := hsp
      exact wpAny_execs_nil ⟨σ', H', J'.ofTry ok, q⟩
    | brk =>
      obtain ⟨σ', H', J', q⟩ := hsp
      exact ⟨σ', H', J'.ofTry ok, q⟩
    | cont =>
      obtain ⟨σ', H', J', q⟩ := hsp
      exact ⟨σ', H', J'.ofTry ok, q⟩
    | ret u =>
      obtain ⟨v, σ', H', J', r, q⟩ := hsp
      exact ⟨v, σ', H', J'.ofTry ok, r, q⟩
end
end Cm

set_option linter.all false
/-! defs that raise, called by name; the first wrong name of a tree -/
namespace Cm
open PySem L2 PySem.Spec PyProof.Rows
structure ClX (P : Program) (w : World) (K : PySem.W.Frag) (mg : Str → Option Value) (base : Heap) (k : Nat) (x : Str) (sp : Sp) : Prop where
  ex : ∃ (f : Addr) (fd : FuncData) (ps : List Str), FnOk P w K mg base (L2.CX P w) k f fd ps sp ∧ mg x = some (.ref f) ∧ PySem.W.keepIn K (.ref f) = true ∧ Binds K fd ps []
section
variable {P : Program} {w : World} {K : PySem.W.Frag} {mg : Str → Option Value} {base : Heap}
theorem clX_of {x : Str} {st : Stmt} {N ps : List Str} {k : Nat} {sp : Sp} (T : At K mg x st ps) (S : FnScope N ps (defScope st))
    (len : ∀ vs H Q E, sp vs H Q E → vs.length = ps.length)
    (hb : ∀ (f : Addr) (cdv : Value) (A : Around) (outer : List Env) (s : Shared) (H : Hp) (vs : List V) (Q : VK) (E : XK),
      Room k (A.deeper (envOfC x (defScope st) s.heap.objs.size f cdv)) → sp vs H Q E →
      ∃ t, PSs (cxOf (L2.CX P w) P w K mg base N x (defScope st) f cdv A outer s H E) (defBody st) t ∧ t { nx := fun _ H' => Q .non H', rt := Q } (start N vs) H) :
    ClX P w K mg base (k + 1) x sp := by
  obtain ⟨f, fd, F, hm, b⟩ := T.ex
  exact ⟨f, fd, ps, F.okX S len (hb f), hm, F.kp, b⟩
end
section
variable {X : Cx} {j k : Nat} {x : Str} {sp : Sp} {e : Expr} {es : List Expr} {t : TA} {p pos : Pos}
/-- a call that lets nothing out -/
theorem pe_cL (c : ClX X.prog X.w X.K X.mg X.base k x sp) (hr : Room j X.A) (hk : k ≤ j) (hg : Gl X x) (ha : PA X (e :: es) t)
    (hdb : (x == ("__debug__" : Str)) = false := by decide) (he : starEach (e :: es) X.env = (false, eval e X.env) :: starEach es X.env := by rfl)
    (hpl : (backTo pos (starEach es X.env)).any (·.1) = false := by rfl) : PE X (.Call (.Name x p) (e :: es) [] pos) (tCall sp [] E0 t) := by
  obtain ⟨f, fd, ps, F, hm, kp, b⟩ := c.ex
  exact pe_call F (hr.mono hk) hg hm kp b .nil passL ha hdb he hpl
/-- a call in a try -/
theorem pe_cS {W : WX} (c : ClX X.prog X.w X.K X.mg X.base k x sp) (hr : Room j X.A) (hk : k ≤ j) (hg : Gl X x) (tk : Takes X W) (ha : PA X (e :: es) t)
    (hdb : (x == ("__debug__" : Str)) = false := by decide) (he : starEach (e :: es) X.env = (false, eval e X.env) :: starEach es X.env := by rfl)
    (hpl : (backTo pos (starEach es X.env)).any (·.1) = false := by rfl) : PE X (.Call (.Name x p) (e :: es) [] pos) (tCallS sp (WE W) t) := by
  obtain ⟨f, fd, ps, F, hm, kp, b⟩ := c.ex
  exact pe_callS F (hr.mono hk) hg hm kp b (fun σ => passAt tk σ) ha hdb he hpl
end

/-- the first text that stands a second time -/
def twice (pre : List Str) : List Str → Option Str
  | [] => none
  | x :: r => if x ∈ pre then some x else twice (pre ++ [x]) r
theorem twice_sok : ∀ (xs pre : List Str) {x : Str}, twice pre xs = some x → x ∈ xs
  | [], _, _, h => by cases h
  | y :: r, pre, x, h => by
    have h' : (if y ∈ pre then some y else twice (pre ++ [y]) r) = some x := h
    split at h'
    · cases h'
      exact List.mem_cons_self
    · exact List.mem_cons_of_mem _ (twice_sok r _ h')
mutual
/-- the first wrong name, in reading order -/
def Tr.wrong (known : List Str) : Tr → Option (Str × Str)
  | .mk h ps => match (own false h).filter (fun x => !decide (x ∈ known)) with
    | x :: _ => some ("unknown", x)
    | [] => match twice [] (held h) with
      | some x => some ("twice", x)
      | none => Tr.wrongs known h ps.length 0 ps
def Tr.wrongs (known : List Str) (h : Hd) (n : Nat) : Nat → List Tr → Option (Str × Str)
  | _, [] => none
  | i, t :: ts => match t.wrong (known ++ under h n i) with
    | some e => some e
    | none => Tr.wrongs known h n (i + 1) ts
end
mutual
theorem wrong_sok : ∀ (t : Tr) (known : List Str) (e : Str × Str), t.ok → t.wrong known = some e → sok e.1 ∧ sok e.2
  | .mk h ps, known, e, o, w => by
    have o' : hok h ps.length ∧ ps.length ≤ 11 ∧ Tr.oks ps := o
    have w' : (match (own false h).filter (fun x => !decide (x ∈ known)) with
      | x :: _ => some ("unknown", x)
      | [] => match twice [] (held h) with
        | some x => some ("twice", x)
        | none => Tr.wrongs known h ps.length 0 ps) = some e := w
    split at w'
    · rename_i x r q
      cases w'
      refine ⟨show sok "unknown" by decide +kernel, ?_⟩
      have m : x ∈ (own false h).filter (fun x => !decide (x ∈ known)) := by rw [q]; exact List.mem_cons_self
      have m2 : x ∈ (Tr.mk h ps).free false := List.mem_append_left _ (List.mem_filter.mp m).1
      exact free_sok false (.mk h ps) o x m2
    · split at w'
      · rename_i x q
        cases w'
        exact ⟨show sok "twice" by decide +kernel, held_sok o'.1 x (twice_sok _ _ q)⟩
      · exact wrongs_sok 0 ps known h ps.length e o'.2.2 w'
theorem wrongs_sok : ∀ (i : Nat) (ts : List Tr) (known : List Str) (h : Hd) (n : Nat) (e : Str × Str), Tr.oks ts → Tr.wrongs known h n i ts = some e → sok e.1 ∧ sok e.2
  | _, [], _, _, _, _, _, w => by cases w
  | i, t :: ts, known, h, n, e, o, w => by
    have w' : (match t.wrong (known ++ under h n i) with
      | some e => some e
      | none => Tr.wrongs known h n (i + 1) ts) = some e := w
    split at w'
    · rename_i e' q
      cases w'
      exact wrong_sok t _ _ o.1 q
    · exact wrongs_sok (i + 1) ts known h n e o.2 w'
end
end Cm

set_option linter.all false
/-! classes of errors with fields: their facts as one check -/
namespace Cm
open PySem L2 PySem.Spec PyProof.Rows
/-- the def within a class of the text -/
def iniS : Stmt → Stmt
  | .ClassDef _ _ _ b _ _ _ _ _ _ _ => b.getD 0 (.Pass ⟨0, 0, 0, 0⟩)
  | s => s
theorem two_of {α : Type} {xs : List α} (h : xs.length = 2) : ∃ x y, xs = [x, y] := by
  cases xs with
  | nil => simp at h
  | cons a r =>
    obtain ⟨b, rfl⟩ := one_of (show r.length = 1 by simpa using h)
    exact ⟨a, b, rfl⟩
def excB (K : PySem.W.Frag) (C : Addr) : Bool :=
  PySem.W.findIn K (.ref C) "__getattribute__" == some (some (.builtin "BaseException.__getattribute__")) && (PySem.W.findIn K (.ref C) "__getattr__" == some Option.none && (PySem.W.subIn K (.ref C) (.type "BaseException") == some true && (PySem.W.hasDictIn K C &&
    (PySem.W.findIn K (.ref C) "__class__" == some (some (.builtin "object.__class__")) && (PySem.W.specialIn K (.builtin "object.__class__") "__get__" == some (some (.builtin "getset_descriptor.__get__")) && (PySem.W.takesIn K (.builtin "object.__class__") == some true &&
      (PySem.W.mroIn K C (.type "object") == some true && (PySem.W.typeIn K (.ref C) == some (.type "type") && PySem.W.keepIn K (.ref C)))))))))
def clsB (K : PySem.W.Frag) (C fI : Addr) (fl : List Str) : Bool :=
  excB K C && (PySem.W.findIn K (.ref C) "__setattr__" == some (some (.builtin "object.__setattr__")) && ((fl.all fun f => PySem.W.findIn K (.ref C) f == some Option.none) && (PySem.W.typeIn K (.ref fI) == some (.type "function") && PySem.W.keepIn K (.ref fI))))
structure ExcF (K : PySem.W.Frag) (C : Addr) : Prop where
  ec : ExcC K C
  xf : XfC K C
  ty : PySem.W.typeIn K (.ref C) = some (.type "type")
  kp : PySem.W.keepIn K (.ref C) = true
theorem excB_ok {K : PySem.W.Frag} {C : Addr} (h : excB K C = true) : ExcF K C := by
  simp only [excB, Bool.and_eq_true, beq_iff_eq] at h
  obtain ⟨h1, h2, h3, h4, h5, h6, h7, h8, h9, h10⟩ := h
  exact ⟨⟨h1, h2, h3, h4, h5, h6, h7, h8⟩, ⟨h1, h2, h3, h4⟩, h9, h10⟩
theorem clsB_exc {K : PySem.W.Frag} {C fI : Addr} {fl : List Str} (h : clsB K C fI fl = true) : ExcF K C := by
  simp only [clsB, Bool.and_eq_true] at h
  exact excB_ok h.1
theorem clsB_kI {K : PySem.W.Frag} {C fI : Addr} {fl : List Str} (h : clsB K C fI fl = true) : PySem.W.keepIn K (.ref fI) = true := by
  simp only [clsB, Bool.and_eq_true, beq_iff_eq] at h
  exact h.2.2.2.2
theorem mk_of {P : Program} {w : World} {K : PySem.W.Frag} {h : Heap} {mg : Str → Option Value} {base : Heap} {C fI R : Addr} {x : Str} {fl ps : List Str} {fd : FuncData} (X : K.In h) (G : h.Ns mainGlobals mg) (a : PySem.W.nsIn K mainGlobals x = some (some (.ref C)))
    {nm q : Str} {N : Addr} {bs : List Value} {sn : List Str} {sub : List Value} {ab : Bool} {col : Option Bool} {dd : Option Addr} {m0 m1 m2 m3 m5 : Option Value}
    (xl : K.lookup C = some (excClassObj nm q C N bs [.ref R, .type "ValueError", .type "Exception", .type "BaseException", .type "object"] true sn sub ab col dd m0 m1 m2 m3 m5 "ValueError.__new__"))
    (i : PySem.W.findIn K (.ref C) "__init__" = some (some (.ref fI))) (o : clsB K C fI fl = true) (F : FnOk P w K mg base CX0 1 fI fd ps (spI K fl)) (b : Binds K fd ps []) : Mk P w K mg base C x fl := by
  simp only [clsB, Bool.and_eq_true, beq_iff_eq, List.all_eq_true] at o
  obtain ⟨o1, o2, o3, o4, o5⟩ := o
  have E := excB_ok o1
  refine ⟨⟨⟨nm, q, N, bs, _, sn, sub, ab, col, dd, m0, m1, m2, m3, m5, xl, ?_⟩, o2, E.ec.hs, E.ty, E.kp⟩, PySem.W.mg_of X G a, E.xf, E.ec, o3, fI, fd, ps, i, o4, F, b⟩
  show PySem.HandSPX.refsVE [.type "ValueError", .type "Exception", .type "BaseException", .type "object"] = true
  decide +kernel
/-- caught by its own name -/
theorem exm_own {K : PySem.W.Frag} {C fI : Addr} {fl : List Str} (o : clsB K C fI fl = true) (s : PySem.W.subIn K (.ref C) (.ref C) = some true) : PySem.W.exmOne K (.ref C) (.ref C) = some true := by
  have E := clsB_exc o
  exact PySem.W.exm_ref E.ec.hs E.ec.hd E.ty s
end Cm

set_option linter.all false
/-! displays of tuples out of written texts, written numbers and names, as one step -/
namespace Cm
open PySem L2 PySem.Spec PyProof.Rows
inductive DX where
  | str (x : Str)
  | int (i : Int)
  | slot (i : Nat)
  | tup (xs : List DX)
mutual
def DX.data (ρ : Nat → PyData) : DX → PyData
  | .str x => .str x
  | .int i => .int i
  | .slot i => ρ i
  | .tup xs => .tuple (DX.datas ρ xs)
def DX.datas (ρ : Nat → PyData) : List DX → List PyData
  | [] => []
  | x :: xs => x.data ρ :: DX.datas ρ xs
end
mutual
def DX.slots : DX → List Nat
  | .str _ => []
  | .int _ => []
  | .slot i => [i]
  | .tup xs => DX.slotss xs
def DX.slotss : List DX → List Nat
  | [] => []
  | x :: xs => x.slots ++ DX.slotss xs
end
/-- the names hold such data -/
def Has (K : PySem.W.Frag) (ρ : Nat → PyData) (σ : L2.St) (H : Hp) : List Nat → Prop
  | [] => True
  | i :: r => (∃ v, σ[i]? = some (some v) ∧ Dp K H v (ρ i)) ∧ Has K ρ σ H r
theorem Has.same {K : PySem.W.Frag} {ρ : Nat → PyData} {σ : L2.St} {H H' : Hp} (s : Same H H') : ∀ {l : List Nat}, Has K ρ σ H l → Has K ρ σ H' l
  | [], _ => trivial
  | _ :: _, ⟨⟨v, e, h⟩, r⟩ => ⟨⟨v, e, dp_same s _ _ h⟩, Has.same s r⟩
theorem Has.app {K : PySem.W.Frag} {ρ : Nat → PyData} {σ : L2.St} {H : Hp} : ∀ {l m : List Nat}, Has K ρ σ H (l ++ m) → Has K ρ σ H l ∧ Has K ρ σ H m
  | [], _, h => ⟨trivial, h⟩
  | _ :: _, _, ⟨a, r⟩ => ⟨⟨a, (Has.app r).1⟩, (Has.app r).2⟩
def tD (K : PySem.W.Frag) (d : DX) : TE := fun σ H Q => ∃ ρ : Nat → PyData, Has K ρ σ H d.slots ∧ ∀ v H', Same H H' → Dp K H' v (d.data ρ) → Q v H'
def tDs (K : PySem.W.Frag) (ds : List DX) : TA := fun σ H Q => ∃ ρ : Nat → PyData, Has K ρ σ H (DX.slotss ds) ∧ ∀ vs H', Same H H' → DpAll K H' vs (DX.datas ρ ds) → Q vs H'
section
variable {X : Cx} {K : PySem.W.Frag}
theorem pd_str {x : Str} {j : Nat} {pos : Pos} : PE X (.Constant (.str x) j pos) (tD K (.str x)) :=
  ⟨fun pins s σ H Q I ⟨ρ, _, k⟩ => pe_str.run pins s σ H Q I (k _ H (Same.refl H) (.str x))⟩
theorem pd_int {i : Int} {j : Nat} {pos : Pos} : PE X (.Constant (.int i) j pos) (tD K (.int i)) :=
  ⟨fun pins s σ H Q I ⟨ρ, _, k⟩ => pe_int.run pins s σ H Q I (k _ H (Same.refl H) (.int i))⟩
theorem pd_slot {i : Nat} {e : Expr} (h : PE X e (tVar i)) : PE X e (tD K (.slot i)) :=
  ⟨fun pins s σ H Q I ⟨ρ, ⟨⟨v, ev, hv⟩, _⟩, k⟩ => h.run pins s σ H Q I ⟨v, ev, k v H (Same.refl H) hv⟩⟩
theorem pd_nil : PA X [] (tDs K []) :=
  ⟨fun pos pins s σ H Q I ⟨ρ, _, k⟩ => pa_nil.run pos pins s σ H Q I (k [] H (Same.refl H) .nil)⟩
theorem pd_cons {e : Expr} {es : List Expr} {d : DX} {ds : List DX} (h : PE X e (tD K d)) (r : PA X es (tDs K ds)) (hs : starEach (e :: es) X.env = (false, eval e X.env) :: starEach es X.env := by rfl) : PA X (e :: es) (tDs K (d :: ds)) :=
  ⟨fun pos pins s σ H Q I ⟨ρ, hh, k⟩ => (pa_cons h r hs).run pos pins s σ H Q I
    ⟨ρ, (Has.app hh).1, fun v H1 s1 hv => ⟨ρ, (Has.app hh).2.same s1, fun vs H2 s2 hvs => k (v :: vs) H2 (s1.trans s2) (.cons (dp_same s2 _ _ hv) hvs)⟩⟩⟩
theorem datas_len {ρ : Nat → PyData} : ∀ ds : List DX, (DX.datas ρ ds).length = ds.length
  | [] => rfl
  | d :: ds => congrArg (· + 1) (datas_len ds)
theorem pd_tup {es : List Expr} {ds : List DX} {k : Nat} {pos : Pos} (h : PA X es (tDs K ds)) (hl : ds.length ≤ 1000 := by decide) : PE X (.Tuple es k pos) (tD K (.tup ds)) :=
  ⟨fun pins s σ H Q I ⟨ρ, hh, k⟩ => (pe_tup h).run pins s σ H Q I ⟨ρ, hh, fun vs H1 s1 hvs => ⟨by
      have e := DpAll.len hvs
      rw [datas_len] at e
      rw [e]
      exact Nat.le_trans hl (by decide), fun p hp => k _ _ (s1.trans (same_new hp)) (.tup (.inl (.inl upd_same)) (dps_same (same_new hp) _ _ hvs))⟩⟩⟩
end
theorem iteEq {x y : Str} {A B : Prop} (h : x = y) (a : A) : if decide (V.str x = V.str y) = true then A else B := by
  rw [decS, decide_eq_true h]
  exact iteT a
theorem iteNe {x y : Str} {A B : Prop} (h : ¬ x = y) (b : B) : if decide (V.str x = V.str y) = true then A else B := by
  rw [decS, decide_eq_false h]
  exact iteF b
theorem iteIn {x : Str} {ws : List Str} {A B : Prop} (h : x ∈ ws) (a : A) : if inV (.str x) (ws.map V.str) = true then A else B := by
  rw [in_words, decide_eq_true h]
  exact iteT a
theorem iteNi {x : Str} {ws : List Str} {A B : Prop} (h : ¬ x ∈ ws) (b : B) : if inV (.str x) (ws.map V.str) = true then A else B := by
  rw [in_words, decide_eq_false h]
  exact iteF b
theorem mem_str {ws : List Str} {v : V} (h : v ∈ ws.map V.str) : ∃ w, w ∈ ws ∧ v = .str w := by
  obtain ⟨w, hw, rfl⟩ := List.mem_map.mp h
  exact ⟨w, hw, rfl⟩
end Cm

namespace K04
open PySem L2 Cm
/-- the names that a form binds over each of its parts -/
def spBound (K : PySem.W.Frag) : Sp := fun vs H Q _ => ∃ (v : V) (h : Hd) (ds : List PyData), vs = [v] ∧ Dp K H v (encH h ds) ∧ hok h ds.length ∧ flatDs ds = true ∧ ds.length ≤ 100 ∧
  ∀ (t : Addr) (us : List V) (H' : Hp), Same H H' → SqT K H' t us → DpAll K H' us (bnds h ds.length) → Q (.ref t) H'
section
variable {P : Program} {w : World} {K : PySem.W.Frag} {mg : Str → Option Value} {base : Heap}
theorem dps_rep {H : Hp} {v : V} {d : PyData} (h : Dp K H v d) : ∀ n : Nat, DpAll K H (List.replicate n [v]).flatten (List.replicate n d)
  | 0 => .nil
  | n + 1 => by
    have := dps_rep h n
    show DpAll K H ([v] ++ (List.replicate n [v]).flatten) (d :: List.replicate n d)
    exact .cons h this
abbrev s_p_names_bound : Stmt := top 4
abbrev N_p_names_bound : List Str := ["tree", "word", "names", "name", "_", "sides"]
theorem sc_p_names_bound : FnScope N_p_names_bound ["tree"] (defScope s_p_names_bound) := ⟨rfl, rfl, rfl, by decide +kernel, rfl, by decide +kernel, by decide +kernel⟩
theorem ok_names_bound (T : Txt mg) (c_p_parts_of : Cl P w K mg base 1 "parts_of" (spParts K)) (D : At K mg "names_bound" s_p_names_bound ["tree"]) : Cl P w K mg base 2 "names_bound" (spBound K) := by
  refine cl_of D sc_p_names_bound (fun vs H Q E h => ?_) fun f cdv A outer s H vs Q E hr h => ?_
  · obtain ⟨v, h, ds, rfl, _⟩ := h
    rfl
  · obtain ⟨v, h, ds, rfl, hd, o, fl, hlen, k⟩ := h
    obtain ⟨a, its, rfl, hs, hx⟩ := view hd
    refine ⟨_, (pss_cons (ps_set (i := 1) sc_p_names_bound.nd rfl (Or.inl rfl) (pe_ix ix_tup (pv 0) pe_int (fun _ _ => rfl)))
      (pss_cons (ps_if (pt_cmpR op_eq (pv 1) pe_str (nomark _))
        (pss_one (ps_ret (pe_tup (pa_cons (pe_tupleOf (by rfl) T.tuple (pe_ix ix_tup (pv 0) pe_int (fun _ _ => rfl))) pa_nil))))
        pss_nil)
      (pss_cons (ps_if (pt_inW (pv 1) (.cons (.cons (.cons .nil))) (show 3 ≤ sizeLine by decide) (by rfl))
        (pss_one (ps_ret (pe_tup (pa_cons (pe_tup (pa_cons (pe_ix ix_tup (pv 0) pe_int (fun _ _ => rfl)) pa_nil)) pa_nil))))
        pss_nil)
      (pss_cons (ps_if (pt_inW (pv 1) (.cons (.cons .nil)) (show 2 ≤ sizeLine by decide) (by rfl))
        (pss_cons (ps_set (i := 2) sc_p_names_bound.nd rfl (Or.inl rfl) (pe_tupleOf (by rfl) T.tuple (pe_lc (own := [("name", 3), ("_", 4)]) (g := gTup K 2 (gCons (gName 3) (gCons (gName 4) gNil))) rfl sc_p_names_bound.nd (pi_tup (pe_ix ix_tup (pv 0) pe_int (fun _ _ => rfl))) (blkOk_by (N := N_p_names_bound) (sc := defScope s_p_names_bound) (by decide +kernel))
      (fun _ _ _ _ _ => (pg_tup rfl (pgs_cons (pg_name (i := 3) sc_p_names_bound.nd rfl (Or.inl rfl)) (pgs_cons (pg_name (i := 4) sc_p_names_bound.nd rfl (Or.inl rfl)) pgs_nil))))
      (fun _ _ _ _ _ => pts_nil)
      (fun _ _ _ _ _ => (pv 3)))))
        (pss_mid (ps_set (i := 5) sc_p_names_bound.nd rfl (Or.inl rfl) (pe_ifExp (pt_cmpR op_eq (pv 1) pe_str (nomark _)) (pv 2) (pe_tup pa_nil)))
        (pss_one (ps_ret (pe_op op_catA (pe_op op_repA (pe_tup (pa_cons (pv 5) pa_nil)) (pe_callB call_len_seq (by rfl) T.len (by decide +kernel) (pa_cons (pv 2) pa_nil))) (pe_tup (pa_cons (pv 2) pa_nil)))))))
        pss_nil)
      (pss_one (ps_ret (pe_op op_repA (pe_tup (pa_cons (pe_tup pa_nil) pa_nil)) (pe_callB call_len_seq (by rfl) T.len (by decide +kernel) (pa_cons (pe_c c_p_parts_of hr (by decide) (by rfl) (pa_cons (pv 0) pa_nil)) pa_nil))))))))), ?_⟩
    have hhd := hx.head
    refine ⟨_, rfl, a, its, _, _, rfl, rfl, hs, hhd, ?_⟩
    refine ⟨_, rfl, rfl, _, rfl, ?_⟩
    rw [eq_fn o]
    cases eF : isFn h with
    | true =>
      refine iteT ?_
      cases h with
      | fn xs =>
        obtain ⟨q, vs, rfl, hq, hv⟩ := hx
        refine ⟨_, rfl, a, _, _, _, rfl, rfl, hs, atI_nat (j := 1) rfl, .inr ⟨q, _, rfl, hq, by show 1 ≤ sizeLine; decide, fun t ht => ?_⟩⟩
        have s1 := same_new (o := .tup [V.ref q]) ht
        refine k t _ _ s1 (.inl (.inl upd_same)) ?_
        have e1 : ds.length = 1 := o.1
        rw [bnds_no rfl, e1]
        exact .cons (.tup (sqt_same s1 hq) (dpAll_strs xs)) .nil
      | _ => cases eF
    | false =>
      refine iteF ?_
      refine ⟨_, rfl, rfl, fun H1 s1 => ?_⟩
      have hs1 := sqt_same s1 hs
      have hx1 := hx.same s1
      rw [in_T o]
      cases eT : isTak h with
      | true =>
        refine iteT ?_
        cases h with
        | one w x =>
          obtain ⟨vs, rfl, hv⟩ := hx1
          refine ⟨_, rfl, a, _, _, _, rfl, rfl, hs1, atI_nat (j := 1) rfl, by show 1 ≤ sizeLine; decide, fun q hq => ⟨by show 1 ≤ sizeLine; decide, fun t ht => ?_⟩⟩
          have s2 := same_new (o := .tup [V.str x]) hq
          have s3 := same_new (o := .tup [V.ref q]) ht
          refine k t _ _ (s1.trans (s2.trans s3)) (.inl (.inl upd_same)) ?_
          have e1 : ds.length = 1 := o.1
          have e2 : held (.one w x) = [x] := by
            have : (!decide (w = "set")) = true := eT
            show (if w = "set" then [] else [x] : List Str) = [x]
            rw [if_neg (fun z => by rw [decide_eq_true z] at this; cases this)]
          rw [bnds_no rfl, e1, e2]
          exact .cons (.tup (sqt_same s3 (.inl (.inl upd_same))) (dpAll_strs [x])) .nil
        | _ => cases eT
      | false =>
        refine iteF ?_
        refine ⟨_, rfl, rfl, fun H2 s2 => ?_⟩
        have S2 := s1.trans s2
        have hs2 := sqt_same s2 hs1
        have hx2 := hx1.same s2
        rw [in_B o]
        cases eB : kB h with
        | true =>
          refine iteT ?_
          cases h with
          | bind w xs =>
            obtain ⟨q, rows, vs, rfl, hq, hrows, hv⟩ := hx2
            have hdl : ds.length = xs.length + 1 := o.1
            have hrl : rows.length = xs.length := by
              have := DpAll.len hrows
              rw [List.length_map, List.length_zip] at this
              omega
            refine ⟨_, rfl, a, _, _, _, rfl, rfl, hs2, atI_nat (j := 1) rfl, q, rfl, ⟨_, hq⟩, fun L hL => ?_⟩
            refine lc_data (K := K) (walk_tup (xs := rows)) (fun i => (xs[i]?).map PyData.str) hL (by omega) (fun H' s => sqt_same s hq) (fun i _ d e => ?_) ?_ ?_
            · obtain ⟨d', e', rfl⟩ := Option.map_eq_some_iff.mp e
              rfl
            · rintro i x H3 H4 hi s3 ⟨rfl, e2⟩ Q1 Q0 q1 q0
              obtain ⟨d, g1, g2⟩ := DpAll.atV hrows e2
              obtain ⟨p, ep, rfl⟩ := map_at g1
              obtain ⟨r, its3, rfl, hr3, hi3⟩ := dp_tup (dp_same s3 _ _ g2)
              cases hi3 with
              | cons h1 h2 =>
                obtain ⟨v, rfl, h3⟩ := dpAll_one h2
                refine ⟨r, _, rfl, hr3, rfl, _, _, rfl, _, _, rfl, rfl, rfl, ?_⟩
                refine ⟨_, rfl, q1 _ _ (.str p.1) ?_ (Same.refl _) h1⟩
                rw [(List.getElem?_zip_eq_some.mp ep).1]
                rfl
            · intro H3 acc s3 hacc ha3
              rw [show rows.length = xs.length by omega, range_map] at ha3
              have ea := dpAll_strs_inv ha3
              subst ea
              refine .inl ⟨L, _, rfl, .inl (.inl hacc), fun nm hnm => ?_⟩
              have s4 := same_new (o := .tup (xs.map V.str)) hnm
              have S4 := S2.trans (s3.trans s4)
              have hn4 : SqT K (upd H3 nm (.tup (xs.map V.str))) nm (xs.map V.str) := .inl (.inl upd_same)
              generalize upd H3 nm (.tup (xs.map V.str)) = H4 at *
              refine ⟨fun σ' H' => ∃ sd : Addr, σ' = [some (.ref a), some (.str (wd (.bind w xs))), some (.ref nm), none, none, some (.ref sd)] ∧ Same H4 H' ∧ (xs = [] ∨ SqT K H' sd ((under (.bind w xs) ds.length 0).map V.str)), ?_, ?_⟩
              · refine ⟨_, rfl, rfl, _, rfl, ?_⟩
                have hw : w ∈ bindW := o.2.1
                have hcw : w = "let" ∨ w = "rec" := by
                  simp only [bindW, List.mem_cons, List.not_mem_nil, or_false] at hw
                  exact hw
                show if decide (V.str w = V.str "rec") = true then _ else _
                rcases hcw with rfl | rfl
                · refine iteNe (by decide +kernel) ⟨by show 0 ≤ sizeLine; decide, fun sd hsd => ⟨sd, rfl, same_new hsd, ?_⟩⟩
                  by_cases z : xs = []
                  · exact .inl z
                  · have hx0 : 0 < xs.length := List.length_pos_iff.mpr z
                    have e0 : under (.bind "let" xs) ds.length 0 = [] := by
                      unfold under
                      rw [if_pos ⟨show decide (("let" : Str) = "let") = true by decide +kernel, by omega⟩]
                    rw [e0]
                    exact .inr (.inl (.inl upd_same))
                · refine iteEq rfl ⟨_, rfl, nm, rfl, Same.refl _, ?_⟩
                  have e0 : under (.bind "rec" xs) ds.length 0 = xs := under_no (h := .bind "rec" xs) (show decide (("rec" : Str) = "let") = false by decide +kernel) _ _
                  rw [e0]
                  exact .inr hn4
              · rintro σ' H5 ⟨sd, rfl, s5, hsd⟩
                refine ⟨_, rfl, by show 1 ≤ sizeLine; decide, fun t1 ht1 => ?_⟩
                have s6 := same_new (o := .tup [V.ref sd]) ht1
                refine ⟨_, rfl, nm, _, rfl, .inr (sqt_same (s5.trans s6) hn4), ?_⟩
                refine ⟨t1, (xs.map V.str).length, _, rfl, rfl, .inl (.inl upd_same), (fun z => by cases z), by rw [List.length_map]; omega, (by show 1 ≤ 1000; decide), fun t2 H7 s7 ht2 => ?_⟩
                refine ⟨_, rfl, by show 1 ≤ sizeLine; decide, fun t3 ht3 => ?_⟩
                have s8 := same_new (o := .tup [V.ref nm]) ht3
                refine cat_any (sqt_same s8 ht2) (.inl (.inl upd_same)) ?_ fun t4 H9 s9 ht4 => ?_
                · have e : (List.replicate (xs.map V.str).length [V.ref sd]).flatten.length ≤ 1000 := by
                    have := DpAll.len (dps_rep (K := K) (H := H5) (v := .non) (d := .none) .non (xs.map V.str).length)
                    rw [List.length_flatten, List.map_replicate, List.sum_replicate_nat, List.length_map]
                    show xs.length * 1 ≤ 1000
                    omega
                  exact Nat.le_trans (Nat.add_le_add_right e _) (by show 1001 ≤ sizeLine; decide)
                · have S9 := (s6.trans s7).trans (s8.trans s9)
                  refine k t4 _ H9 ((S4.trans s5).trans S9) ht4 ?_
                  rw [hdl]
                  have dn : Dp K H9 (.ref nm) (encs xs) := .tup (sqt_same (s5.trans S9) hn4) (dpAll_strs xs)
                  rw [List.length_map]
                  by_cases e : isLet (.bind w xs) = true
                  · rw [bnds_let e]
                    refine DpAll.app ?_ (.cons dn .nil)
                    rcases hsd with z | hsd
                    · subst z
                      exact .nil
                    · by_cases z : xs = []
                      · subst z
                        exact .nil
                      · have hx0 : 0 < xs.length := List.length_pos_iff.mpr z
                        have e0 : under (.bind w xs) ds.length 0 = [] := by
                          unfold under
                          rw [if_pos ⟨e, by omega⟩]
                        rw [e0] at hsd
                        exact dps_rep (.tup (sqt_same S9 hsd) .nil) _
                  · have e' : isLet (.bind w xs) = false := by simpa using e
                    rw [bnds_no e', List.replicate_succ']
                    refine DpAll.app ?_ (.cons dn .nil)
                    rcases hsd with z | hsd
                    · subst z
                      exact .nil
                    · rw [under_no e'] at hsd
                      exact dps_rep (.tup (sqt_same S9 hsd) (dpAll_strs xs)) _
          | _ => cases eB
        | false =>
          refine iteF ?_
          have eh : held h = [] := by
            cases h with
            | fn xs => cases eF
            | bind w xs => cases eB
            | one w x =>
              have : (!decide (w = "set")) = false := eT
              show (if w = "set" then [] else [x] : List Str) = []
              rw [if_pos (by
                by_cases z : w = "set"
                · exact z
                · rw [decide_eq_false z] at this
                  cases this)]
            | _ => rfl
          have el : isLet h = false := by
            cases h with
            | bind w xs => cases eB
            | _ => rfl
          refine ⟨by show 0 ≤ sizeLine; decide, fun t1 ht1 => ⟨by show 1 ≤ sizeLine; decide, fun t2 ht2 => ?_⟩⟩
          have s3 := same_new (o := .tup []) ht1
          have s4 := same_new (o := .tup [V.ref t1]) ht2
          have S4 := S2.trans (s3.trans s4)
          refine ⟨_, rfl, .ref a, h, ds, rfl, dp_same S4 _ _ hd, o, fl, hlen, fun t5 us H5 s5 ht5 hu => ?_⟩
          have hul := DpAll.len hu
          refine ⟨t5, us, rfl, .inr ht5, ?_⟩
          refine ⟨t2, us.length, _, rfl, rfl, sqt_same s5 (.inl (.inl upd_same)), (fun z => by cases z), by omega, (by show 1 ≤ 1000; decide), fun t6 H6 s6 ht6 => ?_⟩
          refine k t6 _ H6 (S4.trans (s5.trans s6)) ht6 ?_
          rw [bnds_no el, eh, hul]
          exact dps_rep (.tup (sqt_same (s4.trans (s5.trans s6)) (.inl (.inl upd_same))) .nil) _
end
end K04

namespace K04
open PySem L2 Cm
def wordsG (sa : Bool) : List Str := if sa = true then ["set"] else ["name", "set"]
theorem in_G {h : Hd} {n : Nat} (o : hok h n) (sa : Bool) : inV (.str (wd h)) ((wordsG sa).map V.str) = !(own sa h).isEmpty := by
  have other : kd h ≠ 1 → kd h ≠ 3 → inV (.str (wd h)) ((wordsG sa).map V.str) = false := fun q q2 => by
    have key : ∀ sa : Bool, ∀ c < 10, c ≠ 1 → c ≠ 3 → ∀ w ∈ Cm.wordsOf c, inV (.str w) ((wordsG sa).map V.str) = false := by decide +kernel
    exact key sa _ (wd_mem o).1 q q2 _ (wd_mem o).2
  cases h with
  | name x => cases sa <;> rfl
  | one w x =>
    have key : ∀ sa : Bool, ∀ w ∈ oneW, inV (.str w) ((wordsG sa).map V.str) = decide (w = "set") := by decide +kernel
    show inV (.str w) _ = !(if w = "set" then [x] else [] : List Str).isEmpty
    rw [key sa w o.2.1]
    by_cases z : w = "set"
    · rw [if_pos z, decide_eq_true z]; rfl
    · rw [if_neg z, decide_eq_false z]; rfl
  | num i => exact other (Nat.ne_of_beq_eq_false rfl) (Nat.ne_of_beq_eq_false rfl)
  | lit i => exact other (Nat.ne_of_beq_eq_false rfl) (Nat.ne_of_beq_eq_false rfl)
  | fn i => exact other (Nat.ne_of_beq_eq_false rfl) (Nat.ne_of_beq_eq_false rfl)
  | bind i _ => exact other (Nat.ne_of_beq_eq_false rfl) (Nat.ne_of_beq_eq_false rfl)
  | doo => exact other (Nat.ne_of_beq_eq_false rfl) (Nat.ne_of_beq_eq_false rfl)
  | call => exact other (Nat.ne_of_beq_eq_false rfl) (Nat.ne_of_beq_eq_false rfl)
  | op i => exact other (Nat.ne_of_beq_eq_false rfl) (Nat.ne_of_beq_eq_false rfl)
  | plain i => exact other (Nat.ne_of_beq_eq_false rfl) (Nat.ne_of_beq_eq_false rfl)
theorem own_at {K : PySem.W.Frag} {H : Hp} {ds : List PyData} {h : Hd} {its : List V} {sa : Bool} (x : Items K H ds h its) (e : (!(own sa h).isEmpty) = true) : ∃ y, own sa h = [y] ∧ atI its 1 = some (.str y) := by
  cases h with
  | name y =>
    obtain rfl := (show its = _ from x)
    cases sa with
    | true => cases e
    | false => exact ⟨y, rfl, atI_nat (j := 1) rfl⟩
  | one w y =>
    obtain ⟨vs, rfl, _⟩ := x
    have e' : (!(if w = "set" then [y] else [] : List Str).isEmpty) = true := e
    by_cases z : w = "set"
    · exact ⟨y, if_pos z, atI_nat (j := 1) rfl⟩
    · rw [if_neg z] at e'
      cases e'
  | _ => cases e
/-- the names that a tree names outside are put into found -/
def spGather (K : PySem.W.Frag) (n : Nat) : Sp := fun vs H Q _ => ∃ (v : V) (wd bd fd : Addr) (t : Tr) (sa : Bool) (bound : List Str) (kvs : List (Key × V)) (ns : List Str), vs = [v, .ref wd, .ref bd, .ref fd] ∧
  Dp K H v t.enc ∧ t.ok ∧ t.dep ≤ n ∧ SqT K H wd ((wordsG sa).map V.str) ∧ SqT K H bd (bound.map V.str) ∧ bound.length + 100 * n ≤ 10000 ∧ H fd = some (.dK kvs) ∧ kvs.map (·.1) = ns.map Sum.inr ∧ ns.Nodup ∧ ns.length + t.size ≤ 10000000 ∧
  ∀ (kvs' : List (Key × V)) (ns' : List Str) (H' : Hp), Kd fd H H' → H' fd = some (.dK kvs') → kvs'.map (·.1) = ns'.map Sum.inr → ns'.Nodup → (∀ x, x ∈ ns' ↔ x ∈ ns ∨ (x ∈ t.free sa ∧ x ∉ bound)) → ns'.length ≤ ns.length + t.size → Q .non H'
theorem sizes_take' (ps : List Tr) : ∀ i, Tr.sizes (ps.take i) ≤ Tr.sizes ps := by
  induction ps with
  | nil => intro i; rw [List.take_nil]; exact Nat.le_refl _
  | cons a ps ih =>
    intro i
    cases i with
    | zero => exact Nat.zero_le _
    | succ i =>
      have := ih i
      show a.size + Tr.sizes (ps.take i) ≤ a.size + Tr.sizes ps
      omega
theorem ok_mk' {h : Hd} {ps : List Tr} (o : (Tr.mk h ps).ok) : hok h ps.length ∧ ps.length ≤ 11 ∧ ∀ t ∈ ps, t.ok := by
  have o' : hok h ps.length ∧ ps.length ≤ 11 ∧ Tr.oks ps := o
  exact ⟨o'.1, o'.2.1, fun t m => oks_iff.mp o'.2.2 t m⟩
theorem encL_at' {ps : List Tr} {i : Nat} {d : PyData} (h : (Tr.encL ps)[i]? = some d) : ∃ c, ps[i]? = some c ∧ d = c.enc := by
  rw [encL_map] at h
  obtain ⟨c, e1, e2⟩ := map_at h
  exact ⟨c, e1, e2⟩
theorem take_next {α : Type} {xs : List α} {i : Nat} {c : α} (h : xs[i]? = some c) : xs.take (i + 1) = xs.take i ++ [c] ∧ (xs.take i).length = i := by
  refine ⟨by rw [List.take_add_one, h]; rfl, ?_⟩
  have := (List.getElem?_eq_some_iff.mp h).1
  rw [List.length_take]
  omega
theorem encs_inv {K : PySem.W.Frag} {H : Hp} {v : V} {xs : List Str} (h : Dp K H v (encs xs)) : ∃ q, v = .ref q ∧ SqT K H q (xs.map V.str) := by
  obtain ⟨q, vs, rfl, hq, hv⟩ := dp_tup h
  rw [dpAll_strs_inv hv] at hq
  exact ⟨q, rfl, hq⟩
section
variable {P : Program} {w : World} {K : PySem.W.Frag} {mg : Str → Option Value} {base : Heap}
abbrev s_p_gather : Stmt := top 6
abbrev N_p_gather : List Str := ["tree", "words", "bound", "found", "part", "names"]
theorem sc_p_gather : FnScope N_p_gather ["tree", "words", "bound", "found"] (defScope s_p_gather) := ⟨rfl, rfl, rfl, by decide +kernel, rfl, by decide +kernel, by decide +kernel⟩
theorem ok_gather (T : Txt mg) (c_p_parts_of : Cl P w K mg base 1 "parts_of" (spParts K)) (c_p_names_bound : Cl P w K mg base 2 "names_bound" (spBound K)) (D : At K mg "_gather" s_p_gather ["tree", "words", "bound", "found"]) : ∀ n, Cl P w K mg base (n + 3) "_gather" (spGather K n) := by
  intro n
  induction n with
  | zero =>
    refine cl_of (k := 2) D sc_p_gather (fun vs H Q E h => ?_) fun f cdv A outer s H vs Q E hr h => ?_
    · obtain ⟨v, wd, bd, fd, t, sa, bound, kvs, ns, rfl, _⟩ := h
      rfl
    · obtain ⟨v, wd, bd, fd, t, sa, bound, kvs, ns, _, _, _, z, _⟩ := h
      cases t with
      | mk hd ps => exact absurd z (by show ¬ (Tr.deps ps + 1 ≤ 0); omega)
  | succ n ih =>
    refine cl_of (k := n + 3) D sc_p_gather (fun vs H Q E h => ?_) fun f cdv A outer s H vs Q E hr h => ?_
    · obtain ⟨v, wd, bd, fd, t, sa, bound, kvs, ns, rfl, _⟩ := h
      rfl
    · obtain ⟨v, wd, bd, fd, t, sa, bound, kvs, ns, rfl, hd, o, hdep, hwd, hbd, hbl, hfd, hks, hnd, hsz, k⟩ := h
      cases t with
      | mk h ps =>
      obtain ⟨o1, o2, o3⟩ := ok_mk' o
      have hsz' : ns.length + (Tr.sizes ps + 1) ≤ 10000000 := hsz
      obtain ⟨a, its, rfl, hs, hx⟩ := view hd
      have hu := hu_of hr
      have fle : flatDs (Tr.encL ps) = true := flat_encL ps
      refine ⟨_, (pss_mid (ps_if (PW.pt (pw_and (pt_cmpR op_in_seq (pe_ix ix_tup (pv 0) pe_int (fun _ _ => rfl)) (pv 1) (by rfl)) (pw_and1 (pt_cmpR op_notIn_seq (pe_ix ix_tup (pv 0) pe_int (fun _ _ => rfl)) (pv 2) (by rfl)))))
        (pss_one (ps_dput hu (pv 3) (pe_ix ix_tup (pv 0) pe_int (fun _ _ => rfl)) pe_bl rfl))
        pss_nil)
      (pss_one (ps_for PassesOwn.never rfl (RZ.pi_zipA (by rfl) T.zip (pa_cons (pe_c c_p_parts_of hr (by omega) (by rfl) (pa_cons (pv 0) pa_nil)) (pa_cons (pe_c c_p_names_bound hr (by omega) (by rfl) (pa_cons (pv 0) pa_nil)) pa_nil))) (pg_tup (by rfl) (pgs_cons (pg_name (i := 4) sc_p_gather.nd rfl (Or.inl rfl)) (pgs_cons (pg_name (i := 5) sc_p_gather.nd rfl (Or.inl rfl)) pgs_nil)))
        (pss_one (ps_expr (pe_c ih hr (by omega) (by rfl) (pa_cons (pv 4) (pa_cons (pv 1) (pa_cons (pe_op op_catA (pv 2) (pv 5)) (pa_cons (pv 3) pa_nil)))))))))), ?_⟩
      refine ⟨fun σ' H' => σ' = [some (.ref a), some (.ref wd), some (.ref bd), some (.ref fd), none, none] ∧ Kd fd H H' ∧ ∃ (kvs1 : List (Key × V)) (ns1 : List Str), H' fd = some (.dK kvs1) ∧ kvs1.map (·.1) = ns1.map Sum.inr ∧ ns1.Nodup ∧
          (∀ x, x ∈ ns1 ↔ x ∈ ns ∨ (x ∈ own sa h ∧ x ∉ bound)) ∧ ns1.length ≤ ns.length + 1, ?_, ?_⟩
      · refine ⟨_, rfl, a, its, _, _, rfl, rfl, hs, hx.head, _, rfl, wd, _, rfl, .inr hwd, rfl, flat_strV _, _, rfl, ?_⟩
        show if inV (.str (Cm.wd h)) ((wordsG sa).map V.str) = true then _ else _
        rw [in_G o1]
        cases eo : !(own sa h).isEmpty with
        | false =>
          have e0 : own sa h = [] := by
            cases q : own sa h with
            | nil => rfl
            | cons x r => rw [q] at eo; cases eo
          refine iteF (iteF ⟨rfl, .of_same hfd (Same.refl _), kvs, ns, hfd, hks, hnd, fun x => ?_, by omega⟩)
          rw [e0]
          exact ⟨.inl, fun z => z.elim id fun z => absurd z.1 (List.not_mem_nil)⟩
        | true =>
          obtain ⟨y, ey, e1⟩ := own_at hx eo
          refine iteT ⟨_, rfl, a, its, _, _, rfl, rfl, hs, e1, _, rfl, bd, _, rfl, .inr hbd, rfl, flat_strV _, _, rfl, ?_⟩
          show if (!inV (.str y) (bound.map V.str)) = true then _ else _
          rw [in_words]
          by_cases q : y ∈ bound
          · rw [decide_eq_true q]
            refine iteF ⟨rfl, .of_same hfd (Same.refl _), kvs, ns, hfd, hks, hnd, fun x => ?_, by omega⟩
            rw [ey]
            refine ⟨.inl, fun z => z.elim id fun z => ?_⟩
            rw [List.mem_singleton.mp z.1] at z
            exact absurd q z.2
          · rw [decide_eq_false q]
            refine iteT ⟨_, rfl, _, rfl, a, its, _, _, rfl, rfl, hs, e1, fd, _, rfl, DPut.k (k := Sum.inr y) hfd ?_, ?_⟩
            · have e := congrArg List.length hks
              rw [List.length_map, List.length_map] at e
              rw [e, sizeLine_eq]
              omega
            · refine ⟨rfl, .put hfd, _, _, upd_same, putK_keys hks y _, ?_, fun x => ?_, ?_⟩
              · split
                · exact hnd
                · rename_i m
                  exact List.nodup_append.mpr ⟨hnd, List.nodup_cons.mpr ⟨List.not_mem_nil, List.nodup_nil⟩, fun a ha b hb e => by
                    rw [List.mem_singleton.mp hb] at e
                    exact m (e ▸ ha)⟩
              · rw [ey]
                split
                · rename_i m
                  refine ⟨.inl, fun z => z.elim id fun z => ?_⟩
                  rw [List.mem_singleton.mp z.1]
                  exact m
                · rw [List.mem_append, List.mem_singleton]
                  exact ⟨fun z => z.elim .inl fun z => .inr ⟨z, z ▸ q⟩, fun z => z.elim .inl fun z => .inr z.1⟩
              · split
                · omega
                · rw [List.length_append]
                  exact Nat.le_refl _
      · rintro σ' H0 ⟨rfl, kd0, kvs1, ns1, hfd1, hks1, hnd1, hmem1, hlen1⟩
        have hd0 : Dp K H0 (.ref a) (encH h (Tr.encL ps)) := kd0.dp (flat_enc (.mk h ps)) hd
        refine ⟨_, rfl, .ref a, h, Tr.encL ps, rfl, hd0, by rw [encL_len]; exact o1, fle, by rw [encL_len]; omega, fun t us H1 s1 ht hus => ?_⟩
        refine ⟨_, rfl, .ref a, h, Tr.encL ps, rfl, dp_same s1 _ _ hd0, by rw [encL_len]; exact o1, fle, by rw [encL_len]; omega, fun t2 us2 H2 s2 ht2 hus2 => ?_⟩
        rw [encL_len] at hus2
        have hul := DpAll.len hus
        have hul2 := DpAll.len hus2
        rw [encL_len] at hul
        have hul3 : us2.length = ps.length := by
          rw [hul2]
          unfold bnds
          rw [List.length_map, List.length_range]
        refine ⟨t, t2, us, us2, rfl, .inr ⟨sqt_same s2 ht, ht2, ?_⟩⟩
        have s12 := s1.trans s2
        have kd2 : Kd fd H H2 := kd0.trans (.of_same hfd1 s12)
        have hus' := dps_same s2 _ _ hus
        refine for_it (walk_zipT (xs := us) (ys := us2) (n := ps.length) (by omega)) (fun i σ H' => ∃ (v4 v5 : Option V) (kvs3 : List (Key × V)) (ns3 : List Str), σ = [some (.ref a), some (.ref wd), some (.ref bd), some (.ref fd), v4, v5] ∧ Kd fd H2 H' ∧ H' fd = some (.dK kvs3) ∧ kvs3.map (·.1) = ns3.map Sum.inr ∧ ns3.Nodup ∧
            (∀ x, x ∈ ns3 ↔ x ∈ ns ∨ (x ∈ own sa h ++ Tr.frees sa h ps.length 0 (ps.take i) ∧ x ∉ bound)) ∧ ns3.length ≤ ns.length + 1 + Tr.sizes (ps.take i))
          ⟨none, none, kvs1, ns1, rfl, .of_same (s12 _ _ hfd1) (Same.refl _), s12 _ _ hfd1, hks1, hnd1, (fun x => by rw [hmem1]; show _ ↔ _ ∨ (x ∈ own sa h ++ [] ∧ _); rw [List.append_nil]), hlen1⟩ (fun i σ H' _ z => ?_) ?_ ?_
        · obtain ⟨_, _, _, _, _, z, _⟩ := z
          exact ⟨z.tup (sqt_same s2 ht), z.tup ht2⟩
        · rintro i v σ H3 H4 hi ⟨v4, v5, kvs3, ns3, rfl, kd3, hfd3, hks3, hnd3, hmem3, hlen3⟩ ⟨T1, x1, x2, rfl, hT, rfl, e1, e2⟩
          have s4 := same_new (o := .tup [x1, x2]) hT
          obtain ⟨d1, g1, g2⟩ := DpAll.atV hus' e1
          obtain ⟨c, ec, rfl⟩ := encL_at' g1
          obtain ⟨d2, g3, g4⟩ := DpAll.atV hus2 e2
          rw [under_at hi] at g3
          cases g3
          have kd4 : Kd fd H2 (upd H3 T1 (.tup [x1, x2])) := kd3.trans (.of_same hfd3 s4)
          have fd4 := s4 _ _ hfd3
          refine ⟨T1, _, rfl, .inl (.inl upd_same), rfl, _, _, rfl, _, _, rfl, rfl, ?_⟩
          generalize upd H3 T1 (.tup [x1, x2]) = H4 at *
          obtain ⟨q2, rfl, hq2⟩ := encs_inv (kd4.dp (flat_strs _) g4)
          have hcm : c ∈ ps := List.mem_of_getElem? ec
          obtain ⟨et, el⟩ := take_next ec
          have hul5 := under_len o1 o2 ps.length i
          have hst := sizes_take' ps (i + 1)
          rw [et, sizes_snoc] at hst
          refine ⟨_, rfl, _, rfl, _, rfl, _, rfl, ?_⟩
          refine cat_any ((kd2.trans kd4).tup hbd) hq2 (by rw [List.length_map, List.length_map, sizeLine_eq]; omega) fun t5 H5 s5 ht5 => ?_
          have kd5 : Kd fd H2 H5 := kd4.trans (.of_same fd4 s5)
          rw [← List.map_append] at ht5
          refine ⟨_, rfl, x1, wd, t5, fd, c, sa, bound ++ under h ps.length i, kvs3, ns3, rfl, kd5.dp (flat_enc c) g2, o3 c hcm, dep_mk.mp hdep c hcm, (kd2.trans kd5).tup hwd, ht5, by rw [List.length_append]; omega, s5 _ _ fd4, hks3, hnd3, by omega, fun kvs6 ns6 H6 kd6 hfd6 hks6 hnd6 hmem6 hlen6 => ?_⟩
          refine ⟨_, _, kvs6, ns6, rfl, kd5.trans kd6, hfd6, hks6, hnd6, fun x => ?_, by rw [et, sizes_snoc]; omega⟩
          rw [hmem6, hmem3, et, frees_snoc, el, Nat.zero_add, List.mem_append, List.mem_append, List.mem_append, List.mem_append, List.mem_filter]
          by_cases h1 : x ∈ ns <;> by_cases h2 : x ∈ bound <;> by_cases h3 : x ∈ under h ps.length i <;> by_cases h4 : x ∈ c.free sa <;> by_cases h5 : x ∈ own sa h <;> simp [h1, h2, h3, h4, h5]
        · rintro σ H3 ⟨v4, v5, kvs3, ns3, rfl, kd3, hfd3, hks3, hnd3, hmem3, hlen3⟩
          rw [List.take_of_length_le (Nat.le_refl _)] at hmem3 hlen3
          exact k kvs3 ns3 H3 (kd2.trans kd3) hfd3 hks3 hnd3 (fun x => hmem3 x) (by show ns3.length ≤ ns.length + (Tr.sizes ps + 1); omega)
/-- the names of a tree, ascending -/
def spNames2 (K : PySem.W.Frag) (sa : Bool) : Sp := fun vs H Q _ => ∃ (v : V) (t : Tr), vs = [v] ∧ Dp K H v t.enc ∧ t.ok ∧ t.dep ≤ 70 ∧ t.size ≤ 10000000 ∧
  ∀ (r : Addr) (ys : List Str) (H' : Hp), Same H H' → SqT K H' r (ys.map V.str) → Asc ys → (∀ x, x ∈ ys ↔ x ∈ t.free sa) → Q (.ref r) H'
theorem Kd.over {d : Addr} {H H' : Hp} {kvs : List (Key × V)} (n : H d = none) (k : Kd d (upd H d (.dK kvs)) H') : Same H H' := fun b o e => by
  have ne : b ≠ d := ne_of_none e n
  exact k.st b o ne (by rw [upd_ne ne]; exact e)
abbrev s_p_set_names : Stmt := top 5
abbrev N_p_set_names : List Str := ["tree", "found"]
theorem sc_p_set_names : FnScope N_p_set_names ["tree"] (defScope s_p_set_names) := ⟨rfl, rfl, rfl, by decide +kernel, rfl, by decide +kernel, by decide +kernel⟩
theorem ok_set_names (T : Txt mg) (c_p_gather : Cl P w K mg base 73 "_gather" (spGather K 70)) (D : At K mg "set_names" s_p_set_names ["tree"]) : Cl P w K mg base 74 "set_names" (spNames2 K true) := by
  refine cl_of D sc_p_set_names (fun vs H Q E h => ?_) fun f cdv A outer s H vs Q E hr h => ?_
  · obtain ⟨v, t, rfl, _⟩ := h
    rfl
  · obtain ⟨v, t, rfl, hd, o, hdep, hsz, k⟩ := h
    refine ⟨_, (pss_cons (ps_set (i := 1) sc_p_set_names.nd rfl (Or.inl rfl) pe_dnewK)
      (pss_cons (ps_expr (pe_c c_p_gather hr (by decide) (by rfl) (pa_cons (pv 0) (pa_cons (pe_tup (pa_cons pe_str pa_nil)) (pa_cons (pe_tup pa_nil) (pa_cons (pv 1) pa_nil))))))
      (pss_one (ps_ret (pe_tupleOf (by rfl) T.tuple (pe_callB (call_sortedDA rfl) (by rfl) T.sorted (by decide +kernel) (pa_cons (pv 1) pa_nil))))))), ?_⟩
    refine fun fd hfd => ?_
    have s1 := same_new (o := .dK []) hfd
    refine ⟨_, rfl, by show 1 ≤ sizeLine; decide, fun tw htw => ⟨by show 0 ≤ sizeLine; decide, fun tb htb => ?_⟩⟩
    have s2 := same_new (o := .tup [.str "set"]) htw
    have s3 := same_new (o := .tup []) htb
    have s23 := s2.trans s3
    refine ⟨_, rfl, v, tw, tb, fd, t, true, [], [], [], rfl, dp_same (s1.trans s23) _ _ hd, o, hdep, sqt_same s3 (.inl (.inl upd_same)), .inl (.inl upd_same), by decide, s23 _ _ upd_same, rfl, .nil, by show 0 + t.size ≤ _; omega, fun kvs' ns' H' kd' hfd' hks' hnd' hmem' hlen' => ?_⟩
    have S' : Same H H' := Kd.over hfd ((Kd.of_same upd_same s23).trans kd')
    have hlen2 : ns'.length ≤ 0 + t.size := hlen'
    refine ⟨_, rfl, fd, kvs', ns', rfl, .inl hfd', hks', by omega, fun ys p hp hso np => ?_⟩
    obtain ⟨a1, a2⟩ := asc_of hp hso hnd'
    have s4 := same_new (o := .lst (ys.map V.str)) np
    refine .inl ⟨p, _, rfl, .inl (.inl upd_same), fun r hr' => ?_⟩
    have s5 := same_new (o := .tup (ys.map V.str)) hr'
    refine k r ys _ (S'.trans (s4.trans s5)) (.inl (.inl upd_same)) a1 fun x => ?_
    rw [a2, hmem']
    simp
end
end K04

set_option linter.all false
/-! trees whose set names are held in pairs -/
namespace Cm
open PySem L2 PySem.Spec PyProof.Rows
/-- is x set within some part over which it is bound -/
def chg (h : Hd) (n : Nat) : Nat → List Tr → Str → Bool
  | _, [], _ => false
  | i, t :: ts, x => (decide (x ∈ under h n i) && decide (x ∈ t.free true)) || chg h n (i + 1) ts x
def anewOf (h : Hd) (ps : List Tr) : List Str := (held h).filter (chg h ps.length 0 ps)
def pairT (t : Tr) : Tr := .mk (.op "pair") [t, .mk (.lit "none") []]
def nameT (x : Str) : Tr := .mk (.name x) []
def fillT (x : Str) (t : Tr) : Tr := .mk (.op "left!") [nameT x, t]
def noneT : Tr := .mk (.lit "none") []
/-- the last part within a let of pairs -/
def wrapL (anew : List Str) (h : Hd) (qs : List Tr) : Tr :=
  if anew = [] then .mk h qs else .mk h (qs.take (qs.length - 1) ++ [.mk (.bind "let" anew) ((anew.map fun x => pairT (nameT x)) ++ qs.drop (qs.length - 1))])
def recP (xs anew : List Str) (qs : List Tr) : Tr :=
  let fills := ((xs.zip qs).filter fun r => decide (r.1 ∈ anew)).map fun r => fillT r.1 r.2
  let oth := (xs.zip qs).filter fun r => !decide (r.1 ∈ anew)
  let inner := Tr.mk .doo (fills ++ qs.drop xs.length)
  .mk (.bind "let" anew) ((anew.map fun _ => pairT noneT) ++ [if oth = [] then inner else .mk (.bind "rec" (oth.map (·.1))) (oth.map (·.2) ++ [inner])])
def shapeP (hs : Str → Bool) (anew : List Str) (qs : List Tr) : Hd → Tr
  | .name x => if hs x = true then .mk (.op "left") [nameT x] else .mk (.name x) qs
  | .one w x => if w = "set" then .mk (.op "left!") (nameT x :: qs) else wrapL anew (.one w x) qs
  | .bind w xs => if w = "rec" ∧ anew ≠ [] then recP xs anew qs else wrapL anew (.bind w xs) qs
  | h => wrapL anew h qs
/-- the names held within the i-th part -/
def scopeP (hs : Str → Bool) (h : Hd) (n : Nat) (anew : List Str) (i : Nat) (x : Str) : Bool := (hs x && !decide (x ∈ under h n i)) || (decide (x ∈ anew) && decide (x ∈ under h n i))
mutual
def Tr.plain (hs : Str → Bool) : Tr → Tr
  | .mk h ps => shapeP hs (anewOf h ps) (Tr.plains (scopeP hs h ps.length (anewOf h ps)) 0 ps) h
def Tr.plains (sc : Nat → Str → Bool) : Nat → List Tr → List Tr
  | _, [] => []
  | i, t :: ts => t.plain (sc i) :: Tr.plains sc (i + 1) ts
end
theorem plains_len (sc : Nat → Str → Bool) : ∀ (i : Nat) (ps : List Tr), (Tr.plains sc i ps).length = ps.length
  | _, [] => rfl
  | i, t :: ts => by
    show (Tr.plains sc (i + 1) ts).length + 1 = ts.length + 1
    rw [plains_len sc (i + 1) ts]
theorem plains_at (sc : Nat → Str → Bool) : ∀ (i : Nat) (ps : List Tr) (j : Nat), (Tr.plains sc i ps)[j]? = (ps[j]?).map fun (t : Tr) => t.plain (sc (i + j))
  | _, [], j => by simp [Tr.plains]
  | i, t :: ts, 0 => rfl
  | i, t :: ts, j + 1 => by
    show (Tr.plains sc (i + 1) ts)[j]? = _
    rw [plains_at sc (i + 1) ts j, List.getElem?_cons_succ, show i + 1 + j = i + (j + 1) by omega]
theorem plains_snoc (sc : Nat → Str → Bool) (t : Tr) : ∀ (i : Nat) (ps : List Tr), Tr.plains sc i (ps ++ [t]) = Tr.plains sc i ps ++ [t.plain (sc (i + ps.length))]
  | _, [] => rfl
  | i, a :: ts => by
    show a.plain (sc i) :: Tr.plains sc (i + 1) (ts ++ [t]) = a.plain (sc i) :: (Tr.plains sc (i + 1) ts ++ _)
    rw [plains_snoc sc t (i + 1) ts, List.length_cons, show i + 1 + ts.length = i + (ts.length + 1) by omega]
theorem chg_iff (h : Hd) (n : Nat) (x : Str) : ∀ (i : Nat) (ps : List Tr), chg h n i ps x = true ↔ ∃ j t, ps[j]? = some t ∧ x ∈ under h n (i + j) ∧ x ∈ t.free true
  | i, [] => by simp [chg]
  | i, t :: ts => by
    have ih := chg_iff h n x (i + 1) ts
    show ((decide (x ∈ under h n i) && decide (x ∈ t.free true)) || chg h n (i + 1) ts x) = true ↔ _
    rw [Bool.or_eq_true, Bool.and_eq_true, decide_eq_true_eq, decide_eq_true_eq, ih]
    constructor
    · rintro (⟨a, b⟩ | ⟨j, u, e, a, b⟩)
      · exact ⟨0, t, rfl, a, b⟩
      · exact ⟨j + 1, u, e, by rw [show i + (j + 1) = i + 1 + j by omega]; exact a, b⟩
    · rintro ⟨j, u, e, a, b⟩
      cases j with
      | zero => cases e; exact .inl ⟨a, b⟩
      | succ j => exact .inr ⟨j, u, e, by rw [show i + 1 + j = i + (j + 1) by omega]; exact a, b⟩
theorem plains_mem {sc : Nat → Str → Bool} {i : Nat} {ps : List Tr} {q : Tr} (m : q ∈ Tr.plains sc i ps) : ∃ (j : Nat) (t : Tr), ps[j]? = some t ∧ q = t.plain (sc (i + j)) := by
  obtain ⟨j, e⟩ := List.getElem?_of_mem m
  rw [plains_at] at e
  obtain ⟨t, e1, e2⟩ := Option.map_eq_some_iff.mp e
  exact ⟨j, t, e1, e2.symm⟩
/-! ### trees without set -/
def nsH : Hd → Prop
  | .one w _ => w ≠ "set"
  | _ => True
mutual
def Tr.ns : Tr → Prop
  | .mk h ps => nsH h ∧ Tr.nss ps
def Tr.nss : List Tr → Prop
  | [] => True
  | t :: ts => t.ns ∧ Tr.nss ts
end
theorem nss_iff : ∀ {ps : List Tr}, Tr.nss ps ↔ ∀ t ∈ ps, t.ns
  | [] => by simp [Tr.nss]
  | t :: ts => by
    show t.ns ∧ Tr.nss ts ↔ _
    rw [nss_iff]
    simp
theorem ns_mk {h : Hd} {ps : List Tr} (a : nsH h) (b : ∀ t ∈ ps, t.ns) : (Tr.mk h ps).ns := ⟨a, nss_iff.mpr b⟩
theorem ns_name (x : Str) : (nameT x).ns := ns_mk trivial fun t m => by cases m
theorem ns_none : noneT.ns := ns_mk trivial fun t m => by cases m
theorem ns_pair {t : Tr} (h : t.ns) : (pairT t).ns := ns_mk trivial fun u m => by
  rcases List.mem_cons.mp m with rfl | m
  · exact h
  · rw [List.mem_singleton.mp m]; exact ns_none
theorem ns_fill {x : Str} {t : Tr} (h : t.ns) : (fillT x t).ns := ns_mk trivial fun u m => by
  rcases List.mem_cons.mp m with rfl | m
  · exact ns_name x
  · rw [List.mem_singleton.mp m]; exact h
theorem ns_wrap {anew : List Str} {h : Hd} {qs : List Tr} (a : nsH h) (b : ∀ t ∈ qs, t.ns) : (wrapL anew h qs).ns := by
  unfold wrapL
  split
  · exact ns_mk a b
  · refine ns_mk a fun t m => ?_
    rcases List.mem_append.mp m with m | m
    · exact b t (List.mem_of_mem_take m)
    · rw [List.mem_singleton.mp m]
      refine ns_mk trivial fun u mu => ?_
      rcases List.mem_append.mp mu with mu | mu
      · obtain ⟨x, _, rfl⟩ := List.mem_map.mp mu
        exact ns_pair (ns_name x)
      · exact b u (List.mem_of_mem_drop mu)
theorem ns_rec {xs anew : List Str} {qs : List Tr} (b : ∀ t ∈ qs, t.ns) : (recP xs anew qs).ns := by
  have zp : ∀ r ∈ xs.zip qs, r.2.ns := fun r m => b r.2 (List.of_mem_zip (show (r.1, r.2) ∈ xs.zip qs from m)).2
  have inn : (Tr.mk .doo ((((xs.zip qs).filter fun r => decide (r.1 ∈ anew)).map fun r => fillT r.1 r.2) ++ qs.drop xs.length)).ns := ns_mk trivial fun t m => by
    rcases List.mem_append.mp m with m | m
    · obtain ⟨r, mr, rfl⟩ := List.mem_map.mp m
      exact ns_fill (zp r (List.mem_filter.mp mr).1)
    · exact b t (List.mem_of_mem_drop m)
  unfold recP
  refine ns_mk trivial fun t m => ?_
  rcases List.mem_append.mp m with m | m
  · obtain ⟨x, _, rfl⟩ := List.mem_map.mp m
    exact ns_pair ns_none
  · rw [List.mem_singleton.mp m]
    split
    · exact inn
    · refine ns_mk trivial fun u mu => ?_
      rcases List.mem_append.mp mu with mu | mu
      · obtain ⟨r, mr, rfl⟩ := List.mem_map.mp mu
        exact zp r (List.mem_filter.mp mr).1
      · rw [List.mem_singleton.mp mu]
        exact inn
theorem ns_shape {hs : Str → Bool} {anew : List Str} {qs : List Tr} (b : ∀ t ∈ qs, t.ns) (h : Hd) : (shapeP hs anew qs h).ns := by
  cases h with
  | name x =>
    show (if hs x = true then Tr.mk (.op "left") [nameT x] else .mk (.name x) qs).ns
    split
    · exact ns_mk trivial fun t m => by rw [List.mem_singleton.mp m]; exact ns_name x
    · exact ns_mk trivial b
  | one w x =>
    show (if w = "set" then Tr.mk (.op "left!") (nameT x :: qs) else wrapL anew (.one w x) qs).ns
    split
    · refine ns_mk trivial fun t m => ?_
      rcases List.mem_cons.mp m with rfl | m
      · exact ns_name x
      · exact b t m
    · rename_i e
      exact ns_wrap e b
  | bind w xs =>
    show (if w = "rec" ∧ anew ≠ [] then recP xs anew qs else wrapL anew (.bind w xs) qs).ns
    split
    · exact ns_rec b
    · exact ns_wrap trivial b
  | num i => exact ns_wrap trivial b
  | lit i => exact ns_wrap trivial b
  | fn i => exact ns_wrap trivial b
  | doo => exact ns_wrap trivial b
  | call => exact ns_wrap trivial b
  | op i => exact ns_wrap trivial b
  | plain i => exact ns_wrap trivial b
mutual
theorem ns_plain (hs : Str → Bool) : ∀ t : Tr, (t.plain hs).ns
  | .mk h ps => ns_shape (fun t m => nss_iff.mp (ns_plains _ 0 ps) t m) h
theorem ns_plains (sc : Nat → Str → Bool) : ∀ (i : Nat) (ps : List Tr), Tr.nss (Tr.plains sc i ps)
  | _, [] => trivial
  | i, t :: ts => ⟨ns_plain _ t, ns_plains sc (i + 1) ts⟩
end
mutual
theorem free_ns : ∀ t : Tr, t.ns → t.free true = []
  | .mk h ps, n => by
    have n' : nsH h ∧ Tr.nss ps := n
    show own true h ++ Tr.frees true h ps.length 0 ps = []
    rw [frees_ns h ps.length 0 ps n'.2, List.append_nil]
    cases h with
    | one w x => exact if_neg n'.1
    | _ => rfl
theorem frees_ns (h : Hd) (n : Nat) : ∀ (i : Nat) (ps : List Tr), Tr.nss ps → Tr.frees true h n i ps = []
  | _, [], _ => rfl
  | i, t :: ts, m => by
    have m' : t.ns ∧ Tr.nss ts := m
    show (t.free true).filter _ ++ Tr.frees true h n (i + 1) ts = []
    rw [free_ns t m'.1, frees_ns h n (i + 1) ts m'.2]
    rfl
end
theorem anew_ns {h : Hd} {ps : List Tr} (n : Tr.nss ps) : anewOf h ps = [] := by
  unfold anewOf
  rw [List.filter_eq_nil_iff]
  intro x _ e
  obtain ⟨j, t, e1, _, e3⟩ := (chg_iff h ps.length x 0 ps).mp e
  rw [free_ns t (nss_iff.mp n t (List.mem_of_getElem? e1))] at e3
  cases e3
mutual
/-- what has no set stays as it is -/
theorem plain_same : ∀ (t : Tr) (hs : Str → Bool), t.ns → (∀ x, hs x = false) → t.plain hs = t
  | .mk h ps, hs, n, hz => by
    have n' : nsH h ∧ Tr.nss ps := n
    have ea := anew_ns (h := h) n'.2
    show shapeP hs (anewOf h ps) (Tr.plains (scopeP hs h ps.length (anewOf h ps)) 0 ps) h = .mk h ps
    rw [ea, plains_same ps _ 0 n'.2 (fun i x => by unfold scopeP; rw [hz]; simp)]
    cases h with
    | name x =>
      show (if hs x = true then _ else Tr.mk (.name x) ps) = _
      rw [hz]
      rfl
    | one w x => exact (if_neg n'.1).trans rfl
    | bind w xs =>
      show (if w = "rec" ∧ ([] : List Str) ≠ [] then recP xs [] ps else wrapL [] (.bind w xs) ps) = _
      rw [if_neg fun z => z.2 rfl]
      rfl
    | _ => rfl
theorem plains_same : ∀ (ps : List Tr) (sc : Nat → Str → Bool) (i : Nat), Tr.nss ps → (∀ i x, sc i x = false) → Tr.plains sc i ps = ps
  | [], _, _, _, _ => rfl
  | t :: ts, sc, i, m, hz => by
    have m' : t.ns ∧ Tr.nss ts := m
    show t.plain (sc i) :: Tr.plains sc (i + 1) ts = t :: ts
    rw [plain_same t (sc i) m'.1 (hz i), plains_same ts sc (i + 1) m'.2 hz]
end
end Cm

set_option linter.all false
/-! displays of tuples whose parts may draw, as one step -/
namespace Cm
open PySem L2 PySem.Spec PyProof.Rows
inductive GX where
  | str (x : Str)
  | int (i : Int)
  | slot (i : Nat)
  | ex (n : Nat) (te : TE)
  | tup (xs : List GX)
mutual
def GX.data (ρ τ : Nat → PyData) : GX → PyData
  | .str x => .str x
  | .int i => .int i
  | .slot i => ρ i
  | .ex n _ => τ n
  | .tup xs => .tuple (GX.datas ρ τ xs)
def GX.datas (ρ τ : Nat → PyData) : List GX → List PyData
  | [] => []
  | x :: xs => x.data ρ τ :: GX.datas ρ τ xs
end
mutual
def GX.slots : GX → List Nat
  | .slot i => [i]
  | .tup xs => GX.slotss xs
  | _ => []
def GX.slotss : List GX → List Nat
  | [] => []
  | x :: xs => x.slots ++ GX.slotss xs
end
mutual
def GX.exs : GX → List (Nat × TE)
  | .ex n te => [(n, te)]
  | .tup xs => GX.exss xs
  | _ => []
def GX.exss : List GX → List (Nat × TE)
  | [] => []
  | x :: xs => x.exs ++ GX.exss xs
end
/-- the names hold such data, without lists -/
def HasF (K : PySem.W.Frag) (ρ : Nat → PyData) (σ : L2.St) (H : Hp) : List Nat → Prop
  | [] => True
  | i :: r => (∃ v, σ[i]? = some (some v) ∧ Dp K H v (ρ i) ∧ flatD (ρ i) = true) ∧ HasF K ρ σ H r
theorem HasF.kp {K : PySem.W.Frag} {M : Addr → Prop} {ρ : Nat → PyData} {σ : L2.St} {H H' : Hp} (s : Kp M H H') : ∀ {l : List Nat}, HasF K ρ σ H l → HasF K ρ σ H' l
  | [], _ => trivial
  | _ :: _, ⟨⟨v, e, h, f⟩, r⟩ => ⟨⟨v, e, dp_keep (fun _ _ q => s.tup q) _ _ f h, f⟩, HasF.kp s r⟩
theorem HasF.app {K : PySem.W.Frag} {ρ : Nat → PyData} {σ : L2.St} {H : Hp} : ∀ {l m : List Nat}, HasF K ρ σ H (l ++ m) → HasF K ρ σ H l ∧ HasF K ρ σ H m
  | [], _, h => ⟨trivial, h⟩
  | _ :: _, _, ⟨a, r⟩ => ⟨⟨a, (HasF.app r).1⟩, (HasF.app r).2⟩
/-- each part that draws gives data that is good, wherever it is asked -/
def AllE (K : PySem.W.Frag) (h c : Addr) (S : Nat → PyData → Prop) (σ : L2.St) (H : Hp) : List (Nat × TE) → Prop
  | [] => True
  | e :: r => (∀ H1, Kh h H H1 → Hand H1 h c → e.2 σ H1 fun x H2 => Kh h H1 H2 ∧ Hand H2 h c ∧ ∃ d, S e.1 d ∧ flatD d = true ∧ Dp K H2 x d) ∧ AllE K h c S σ H r
theorem AllE.kp {K : PySem.W.Frag} {h c : Addr} {S : Nat → PyData → Prop} {σ : L2.St} {H H' : Hp} (s : Kh h H H') : ∀ {l : List (Nat × TE)}, AllE K h c S σ H l → AllE K h c S σ H' l
  | [], _ => trivial
  | _ :: _, ⟨a, r⟩ => ⟨fun H1 k x => a H1 (s.trans k) x, AllE.kp s r⟩
theorem AllE.app {K : PySem.W.Frag} {h c : Addr} {S : Nat → PyData → Prop} {σ : L2.St} {H : Hp} : ∀ {l m : List (Nat × TE)}, AllE K h c S σ H (l ++ m) → AllE K h c S σ H l ∧ AllE K h c S σ H m
  | [], _, q => ⟨trivial, q⟩
  | _ :: _, _, ⟨a, r⟩ => ⟨⟨a, (AllE.app r).1⟩, (AllE.app r).2⟩
/-- what was drawn -/
def AllS (S : Nat → PyData → Prop) (τ : Nat → PyData) : List (Nat × TE) → Prop
  | [] => True
  | e :: r => S e.1 (τ e.1) ∧ AllS S τ r
def nums (l : List (Nat × TE)) : List Nat := l.map (·.1)
mutual
theorem flat_gdata {K : PySem.W.Frag} {ρ τ : Nat → PyData} {σ : L2.St} {H : Hp} : ∀ (d : GX), HasF K ρ σ H d.slots → (∀ n, flatD (τ n) = true) → flatD (d.data ρ τ) = true
  | .str _, _, _ => rfl
  | .int _, _, _ => rfl
  | .slot _, ⟨⟨_, _, _, f⟩, _⟩, _ => f
  | .ex n _, _, t => t n
  | .tup xs, h, t => by
    show flatDs (GX.datas ρ τ xs) = true
    exact flat_gdatas xs h t
theorem flat_gdatas {K : PySem.W.Frag} {ρ τ : Nat → PyData} {σ : L2.St} {H : Hp} : ∀ (ds : List GX), HasF K ρ σ H (GX.slotss ds) → (∀ n, flatD (τ n) = true) → flatDs (GX.datas ρ τ ds) = true
  | [], _, _ => rfl
  | d :: ds, h, t => by
    have h1 := flat_gdata d h.app.1 t
    have h2 := flat_gdatas ds h.app.2 t
    show (flatD (d.data ρ τ) && flatDs (GX.datas ρ τ ds)) = true
    rw [h1, h2]
    rfl
end
/-- the data of parts with numbers of their own -/
def put (τ : Nat → PyData) (n : Nat) (d : PyData) : Nat → PyData := fun m => if m = n then d else τ m
mutual
theorem data_eq {ρ τ τ' : Nat → PyData} : ∀ (d : GX), (∀ n ∈ nums d.exs, τ n = τ' n) → d.data ρ τ = d.data ρ τ'
  | .str _, _ => rfl
  | .int _, _ => rfl
  | .slot _, _ => rfl
  | .ex n te, h => h n List.mem_cons_self
  | .tup xs, h => congrArg PyData.tuple (datas_eq xs h)
theorem datas_eq {ρ τ τ' : Nat → PyData} : ∀ (ds : List GX), (∀ n ∈ nums (GX.exss ds), τ n = τ' n) → GX.datas ρ τ ds = GX.datas ρ τ' ds
  | [], _ => rfl
  | d :: ds, h => by
    have h' : ∀ n ∈ nums (d.exs ++ GX.exss ds), τ n = τ' n := h
    unfold nums at h'
    rw [List.map_append] at h'
    have e1 := data_eq (ρ := ρ) (τ := τ) (τ' := τ') d fun n m => h' n (List.mem_append_left _ m)
    have e2 := datas_eq (ρ := ρ) (τ := τ) (τ' := τ') ds fun n m => h' n (List.mem_append_right _ m)
    show d.data ρ τ :: GX.datas ρ τ ds = d.data ρ τ' :: GX.datas ρ τ' ds
    rw [e1, e2]
end
theorem alls_eq {S : Nat → PyData → Prop} {τ τ' : Nat → PyData} : ∀ {l : List (Nat × TE)}, (∀ n ∈ nums l, τ n = τ' n) → AllS S τ l → AllS S τ' l
  | [], _, _ => trivial
  | e :: r, h, ⟨a, b⟩ => ⟨by rw [← h e.1 List.mem_cons_self]; exact a, alls_eq (fun n m => h n (List.mem_cons_of_mem _ m)) b⟩
theorem alls_app {S : Nat → PyData → Prop} {τ : Nat → PyData} : ∀ {l m : List (Nat × TE)}, AllS S τ l → AllS S τ m → AllS S τ (l ++ m)
  | [], _, _, q => q
  | _ :: _, _, ⟨a, r⟩, q => ⟨a, alls_app r q⟩
def tG (K : PySem.W.Frag) (d : GX) : TE := fun σ H Q => ∃ (h c : Addr) (ρ : Nat → PyData) (S : Nat → PyData → Prop), Hand H h c ∧ HasF K ρ σ H d.slots ∧ AllE K h c S σ H d.exs ∧
  ∀ v H' τ, Kh h H H' → Hand H' h c → AllS S τ d.exs → (∀ n, flatD (τ n) = true) → Dp K H' v (d.data ρ τ) → Q v H'
def tGs (K : PySem.W.Frag) (ds : List GX) : TA := fun σ H Q => ∃ (h c : Addr) (ρ : Nat → PyData) (S : Nat → PyData → Prop), Hand H h c ∧ HasF K ρ σ H (GX.slotss ds) ∧ AllE K h c S σ H (GX.exss ds) ∧
  ∀ vs H' τ, Kh h H H' → Hand H' h c → AllS S τ (GX.exss ds) → (∀ n, flatD (τ n) = true) → DpAll K H' vs (GX.datas ρ τ ds) → Q vs H'
section
variable {X : Cx} {K : PySem.W.Frag}
theorem pgx_str {x : Str} {j : Nat} {pos : Pos} : PE X (.Constant (.str x) j pos) (tG K (.str x)) :=
  ⟨fun pins s σ H Q I ⟨h, c, ρ, S, hh, _, _, k⟩ => pe_str.run pins s σ H Q I (k _ H (fun _ => .none) hh.kr hh trivial (fun _ => rfl) (.str x))⟩
theorem pgx_int {i : Int} {j : Nat} {pos : Pos} : PE X (.Constant (.int i) j pos) (tG K (.int i)) :=
  ⟨fun pins s σ H Q I ⟨h, c, ρ, S, hh, _, _, k⟩ => pe_int.run pins s σ H Q I (k _ H (fun _ => .none) hh.kr hh trivial (fun _ => rfl) (.int i))⟩
theorem pgx_slot {i : Nat} {e : Expr} (h : PE X e (tVar i)) : PE X e (tG K (.slot i)) :=
  ⟨fun pins s σ H Q I ⟨h', c, ρ, S, hh, ⟨⟨v, ev, hv, _⟩, _⟩, _, k⟩ => h.run pins s σ H Q I ⟨v, ev, k v H (fun _ => .none) hh.kr hh trivial (fun _ => rfl) hv⟩⟩
theorem pgx_ex {e : Expr} {te : TE} (n : Nat) (he : PE X e te) : PE X e (tG K (.ex n te)) :=
  ⟨fun pins s σ H Q I ⟨h, c, ρ, S, hh, _, a, k⟩ => wpAny_mono (he.run pins s σ H _ I (a.1 H hh.kr hh)) (fun u s1 ⟨x, H2, I2, r, ⟨k2, hh2, d, sd, fd, hd⟩⟩ =>
    ⟨x, H2, I2, r, k x H2 (fun _ => d) k2 hh2 ⟨sd, trivial⟩ (fun _ => fd) hd⟩) (fun _ _ z => z)⟩
theorem pgx_nil : PA X [] (tGs K []) :=
  ⟨fun pos pins s σ H Q I ⟨h, c, ρ, S, hh, _, _, k⟩ => pa_nil.run pos pins s σ H Q I (k [] H (fun _ => .none) hh.kr hh trivial (fun _ => rfl) .nil)⟩
/-- the numbers of the first part are not those of the others -/
def apart (l m : List (Nat × TE)) : Bool := (nums l).all fun n => !(nums m).contains n
theorem pgx_cons {e : Expr} {es : List Expr} {d : GX} {ds : List GX} (hd : PE X e (tG K d)) (r : PA X es (tGs K ds)) (ap : apart d.exs (GX.exss ds) = true := by rfl)
    (hs : starEach (e :: es) X.env = (false, eval e X.env) :: starEach es X.env := by rfl) : PA X (e :: es) (tGs K (d :: ds)) :=
  ⟨fun pos pins s σ H Q I ⟨h, c, ρ, S, hh, hf, ha, k⟩ => (pa_cons hd r hs).run pos pins s σ H Q I
    ⟨h, c, ρ, S, hh, hf.app.1, ha.app.1, fun v H1 τ1 k1 hh1 a1 f1 hv => ⟨h, c, ρ, S, hh1, hf.app.2.kp k1, ha.app.2.kp k1, fun vs H2 τ2 k2 hh2 a2 f2 hvs => by
      have no : ∀ n ∈ nums d.exs, ¬ n ∈ nums (GX.exss ds) := fun n m z => by
        have := List.all_eq_true.mp ap n m
        rw [List.contains_iff_mem.mpr z] at this
        cases this
      let τ : Nat → PyData := fun n => if n ∈ nums d.exs then τ1 n else τ2 n
      have e1 : ∀ n ∈ nums d.exs, τ1 n = τ n := fun n m => (if_pos m).symm
      have e2 : ∀ n ∈ nums (GX.exss ds), τ2 n = τ n := fun n m => (if_neg (fun z => no n z m)).symm
      refine k (v :: vs) H2 τ (k1.trans k2) hh2 (alls_app (alls_eq e1 a1) (alls_eq e2 a2)) (fun n => ?_) ?_
      · show flatD (if n ∈ nums d.exs then τ1 n else τ2 n) = true
        split
        · exact f1 n
        · exact f2 n
      · show DpAll K H2 (v :: vs) (d.data ρ τ :: GX.datas ρ τ ds)
        rw [← data_eq d e1, ← datas_eq ds e2]
        exact .cons (dp_keep (fun _ _ q => k2.tup q) _ _ (flat_gdata d hf.app.1 f1) hv) hvs⟩⟩⟩
theorem gdatas_len {ρ τ : Nat → PyData} : ∀ ds : List GX, (GX.datas ρ τ ds).length = ds.length
  | [] => rfl
  | d :: ds => congrArg (· + 1) (gdatas_len ds)
theorem pgx_tup {es : List Expr} {ds : List GX} {k : Nat} {pos : Pos} (h : PA X es (tGs K ds)) (hl : ds.length ≤ 1000 := by exact Nat.le_of_ble_eq_true rfl) : PE X (.Tuple es k pos) (tG K (.tup ds)) :=
  ⟨fun pins s σ H Q I ⟨h', c, ρ, S, hh, hf, ha, k⟩ => (pe_tup h).run pins s σ H Q I ⟨h', c, ρ, S, hh, hf, ha, fun vs H1 τ k1 hh1 a1 f1 hvs => ⟨by
      have e := DpAll.len hvs
      rw [gdatas_len] at e
      rw [e]
      exact Nat.le_trans hl (by decide), fun p hp => k _ _ τ (k1.trans (hh1.kh (same_new hp))) (hh1.same (same_new hp)) a1 f1 (.tup (.inl (.inl upd_same)) (dps_same (same_new hp) _ _ hvs))⟩⟩⟩
end
end Cm

set_option linter.all false
/-! how deep the data of a tree is; where a name is used -/
namespace Cm
open PySem L2 PySem.Spec PyProof.Rows
def wt (b : Nat) : Hd → Nat
  | .bind _ _ => 3
  | .doo => 2
  | .call => 2
  | .op _ => 2
  | .plain w => if w = "wind" then 1 + b else 1
  | _ => 1
mutual
def Tr.dd (b : Nat) : Tr → Nat
  | .mk h ps => wt b h + Tr.dds b ps
def Tr.dds (b : Nat) : List Tr → Nat
  | [] => 0
  | t :: ts => max (t.dd b) (Tr.dds b ts)
end
theorem dds_le {b n : Nat} : ∀ {ps : List Tr}, Tr.dds b ps ≤ n ↔ ∀ t ∈ ps, t.dd b ≤ n
  | [] => by simp [Tr.dds]
  | t :: ts => by
    have := dds_le (b := b) (n := n) (ps := ts)
    show max (t.dd b) (Tr.dds b ts) ≤ n ↔ _
    rw [Nat.max_le, this]
    simp
theorem wt_pos (b : Nat) (h : Hd) : 1 ≤ wt b h := by
  cases h with
  | plain w =>
    show 1 ≤ (if w = "wind" then 1 + b else 1)
    split <;> omega
  | _ => exact Nat.le_of_ble_eq_true rfl
theorem dd_pos (b : Nat) (t : Tr) : 1 ≤ t.dd b := by
  cases t with
  | mk h ps =>
    have := wt_pos b h
    show 1 ≤ wt b h + Tr.dds b ps
    omega
theorem dep_dd (b : Nat) (t : Tr) : t.dep ≤ t.dd b := by
  refine tr_ind (P := fun t => t.dep ≤ t.dd b) (fun h ps ih => ?_) t
  have h1 := wt_pos b h
  have h2 : Tr.deps ps ≤ Tr.dds b ps := deps_le.mpr fun t m => Nat.le_trans (ih t m) (dds_le.mp (Nat.le_refl _) t m)
  show Tr.deps ps + 1 ≤ wt b h + Tr.dds b ps
  omega
theorem lay_encD {b m : Nat} {h : Hd} {ds : List PyData} (o : hok h ds.length) (f : ∀ d ∈ ds, Lay m d) (p : ds ≠ [] → 1 ≤ m) : Lay (wt b h + m) (encH h ds) := by
  have hw : ∀ w, (w ∈ litW ∨ w ∈ oneW ∨ w ∈ bindW ∨ w ∈ plainW) → ∀ n, Lay n (.str w) := fun w q n => .str (words_sok w (by
    simp only [List.mem_append]
    rcases q with q | q | q | q
    · exact .inl (.inl (.inl q))
    · exact .inl (.inl (.inr q))
    · exact .inl (.inr q)
    · exact .inr q)) _
  have c : ∀ {n : Nat} {d : PyData} {ds : List PyData}, Lay n d → (∀ e ∈ ds, Lay n e) → ∀ e ∈ d :: ds, Lay n e := fun a b e q => by
    rcases List.mem_cons.mp q with rfl | q
    · exact a
    · exact b e q
  have nil : ∀ {n : Nat}, ∀ e ∈ ([] : List PyData), Lay n e := fun e q => by cases q
  have S : ∀ (n : Nat) (w : Str), sok w → Lay n (.str w) := fun n w h => .str h _
  cases h with
  | num i => exact (Lay.tup (n := m) (c (S m "number" (by decide +kernel)) (c (.int i _) nil))).mono (by show m + 1 ≤ 1 + m; omega)
  | name x => exact (Lay.tup (n := m) (c (S m "name" (by decide +kernel)) (c (S m x o.2) nil))).mono (by show m + 1 ≤ 1 + m; omega)
  | lit w => exact (Lay.tup (n := m) (c (hw w (.inl o.2) m) nil)).mono (by show m + 1 ≤ 1 + m; omega)
  | one w x => exact (Lay.tup (n := m) (c (hw w (.inr (.inl o.2.1)) m) (c (S m x o.2.2) f))).mono (by show m + 1 ≤ 1 + m; omega)
  | fn xs =>
    have p1 := p (fun z => by rw [z] at o; exact absurd o.1 (by decide))
    obtain ⟨m', rfl⟩ : ∃ m', m = m' + 1 := ⟨m - 1, by omega⟩
    exact (Lay.tup (n := m' + 1) (c (S _ "fn" (by decide +kernel)) (c (lay_strs o.2.2 m') f))).mono (by show m' + 1 + 1 ≤ 1 + (m' + 1); omega)
  | bind w xs =>
    refine (Lay.tup (n := m + 2) (c (hw w (.inr (.inr (.inl o.2.1))) _) (c (Lay.tup (n := m + 1) fun d hd => ?_) fun d hd => (f d (List.mem_of_mem_drop hd)).mono (by omega)))).mono (by show m + 2 + 1 ≤ 3 + m; omega)
    obtain ⟨q, hq, rfl⟩ := List.mem_map.mp hd
    have hz := List.of_mem_zip (show (q.1, q.2) ∈ xs.zip ds from hq)
    refine Lay.tup (n := m) fun d hd => ?_
    simp only [List.mem_cons, List.not_mem_nil, or_false] at hd
    rcases hd with rfl | rfl
    · exact .str (o.2.2 _ hz.1) _
    · exact f _ hz.2
  | doo => exact (Lay.tup (n := m + 1) (c (S _ "do" (by decide +kernel)) (c (Lay.tup f) nil))).mono (by show m + 1 + 1 ≤ 2 + m; omega)
  | call =>
    refine (Lay.tup (n := m + 1) (c (S _ "call" (by decide +kernel)) fun d hd => ?_)).mono (by show m + 1 + 1 ≤ 2 + m; omega)
    rcases List.mem_append.mp hd with hd | hd
    · exact (f d (List.mem_of_mem_take hd)).mono (by omega)
    · cases List.mem_singleton.mp hd
      exact Lay.tup fun d q => f d (List.mem_of_mem_drop q)
  | op o' => exact (Lay.tup (n := m + 1) (c (S _ "op" (by decide +kernel)) (c (S _ o' o) (c (Lay.tup f) nil)))).mono (by show m + 1 + 1 ≤ 2 + m; omega)
  | plain w => exact (Lay.tup (n := m) (c (hw w (.inr (.inr (.inr o))) m) f)).mono (by have := wt_pos b (.plain w); omega)
theorem lay_dd (b : Nat) (t : Tr) : t.ok → Lay (t.dd b) t.enc := by
  refine tr_ind (P := fun t => t.ok → Lay (t.dd b) t.enc) (fun h ps ih o => ?_) t
  have o' : hok h ps.length ∧ ps.length ≤ 11 ∧ Tr.oks ps := o
  show Lay (wt b h + Tr.dds b ps) (encH h (Tr.encL ps))
  refine lay_encD (by rw [encL_len]; exact o'.1) (fun d hd => ?_) fun z => ?_
  · rw [encL_map] at hd
    obtain ⟨u, m, rfl⟩ := List.mem_map.mp hd
    exact (ih u m (oks_iff.mp o'.2.2 u m)).mono (dds_le.mp (Nat.le_refl _) u m)
  · cases ps with
    | nil => exact absurd rfl z
    | cons u r =>
      have := dd_pos b u
      show 1 ≤ max (u.dd b) (Tr.dds b r)
      omega
/-! ### where a name is used -/
def baseU (x : Str) : Hd → List (List Int × Str)
  | .name y => if y = x then [([], "read")] else []
  | .one w y => if w = "set" ∧ y = x then [([], "set")] else []
  | _ => []
def isNm (x : Str) : Hd → Bool
  | .name y => decide (y = x)
  | _ => false
/-- the called part of a call of one argument that is a name -/
def cal (h : Hd) (n i : Nat) (t : Tr) : Bool := isCall h && decide (n = 2) && decide (i = 0) && isName t.hd
def hw (c : Bool) (s : Str) : Str := if c = true then "called" else s
mutual
def Tr.uses (x : Str) : Tr → List (List Int × Str)
  | .mk h ps => baseU x h ++ Tr.usesL x h ps.length 0 ps
def Tr.usesL (x : Str) (h : Hd) (n : Nat) : Nat → List Tr → List (List Int × Str)
  | _, [] => []
  | i, t :: ts => (if x ∈ under h n i then [] else (t.uses x).map fun p => (((i : Nat) : Int) :: p.1, hw (cal h n i t) p.2)) ++ Tr.usesL x h n (i + 1) ts
end
def rawL (x : Str) (h : Hd) (n : Nat) : Nat → List Tr → List (List Int × Str)
  | _, [] => []
  | i, t :: ts => (if x ∈ under h n i then [] else (t.uses x).map fun p => (((i : Nat) : Int) :: p.1, p.2)) ++ rawL x h n (i + 1) ts
theorem usesL_snoc (x : Str) (h : Hd) (n : Nat) (t : Tr) : ∀ (ts : List Tr) (i : Nat), Tr.usesL x h n i (ts ++ [t]) = Tr.usesL x h n i ts ++ (if x ∈ under h n (i + ts.length) then [] else (t.uses x).map fun p => (((i + ts.length : Nat) : Int) :: p.1, hw (cal h n (i + ts.length) t) p.2))
  | [], i => by
    show (if x ∈ under h n i then [] else _) ++ [] = [] ++ _
    simp
  | a :: ts, i => by
    show (if x ∈ under h n i then [] else _) ++ Tr.usesL x h n (i + 1) (ts ++ [t]) = ((if x ∈ under h n i then [] else _) ++ Tr.usesL x h n (i + 1) ts) ++ _
    rw [usesL_snoc x h n t ts (i + 1), List.append_assoc, List.length_cons, show i + 1 + ts.length = i + (ts.length + 1) by omega]
theorem rawL_snoc (x : Str) (h : Hd) (n : Nat) (t : Tr) : ∀ (ts : List Tr) (i : Nat), rawL x h n i (ts ++ [t]) = rawL x h n i ts ++ (if x ∈ under h n (i + ts.length) then [] else (t.uses x).map fun p => (((i + ts.length : Nat) : Int) :: p.1, p.2))
  | [], i => by
    show (if x ∈ under h n i then [] else _) ++ [] = [] ++ _
    simp
  | a :: ts, i => by
    show (if x ∈ under h n i then [] else _) ++ rawL x h n (i + 1) (ts ++ [t]) = ((if x ∈ under h n i then [] else _) ++ rawL x h n (i + 1) ts) ++ _
    rw [rawL_snoc x h n t ts (i + 1), List.append_assoc, List.length_cons, show i + 1 + ts.length = i + (ts.length + 1) by omega]
theorem raw_eq {x : Str} {h : Hd} {n : Nat} : ∀ {ts : List Tr} {i : Nat}, (∀ j t, ts[j]? = some t → cal h n (i + j) t = true → t.uses x = []) → rawL x h n i ts = Tr.usesL x h n i ts
  | [], _, _ => rfl
  | t :: ts, i, q => by
    show (if x ∈ under h n i then [] else _) ++ rawL x h n (i + 1) ts = (if x ∈ under h n i then [] else _) ++ Tr.usesL x h n (i + 1) ts
    have e1 := raw_eq (x := x) (h := h) (n := n) (ts := ts) (i := i + 1) fun j t' e c => q (j + 1) t' (by simpa using e) (by rw [show i + (j + 1) = i + 1 + j by omega]; exact c)
    rw [e1]
    congr 1
    by_cases m : x ∈ under h n i
    · rw [if_pos m, if_pos m]
    · rw [if_neg m, if_neg m]
      by_cases c : cal h n i t = true
      · rw [q 0 t rfl c]; rfl
      · refine List.map_congr_left fun p _ => ?_
        show _ = (((i : Nat) : Int) :: p.1, (if cal h n i t = true then "called" else p.2 : Str))
        rw [if_neg c]
theorem baseU_len (x : Str) (h : Hd) : (baseU x h).length ≤ 1 := by
  cases h with
  | name y => show (if y = x then [([], "read")] else [] : List (List Int × Str)).length ≤ 1; split <;> simp
  | one w y => show (if w = "set" ∧ y = x then [([], "set")] else [] : List (List Int × Str)).length ≤ 1; split <;> simp
  | _ => exact Nat.zero_le _
mutual
theorem uses_len (x : Str) : ∀ t : Tr, (t.uses x).length ≤ t.size
  | .mk h ps => by
    have h1 := baseU_len x h
    have h2 := usesL_len x h ps.length 0 ps
    show (baseU x h ++ Tr.usesL x h ps.length 0 ps).length ≤ Tr.sizes ps + 1
    rw [List.length_append]
    omega
theorem usesL_len (x : Str) (h : Hd) (n : Nat) : ∀ (i : Nat) (ts : List Tr), (Tr.usesL x h n i ts).length ≤ Tr.sizes ts
  | _, [] => Nat.le_refl _
  | i, t :: ts => by
    have h1 := uses_len x t
    have h2 := usesL_len x h n (i + 1) ts
    show ((if x ∈ under h n i then [] else _) ++ Tr.usesL x h n (i + 1) ts).length ≤ t.size + Tr.sizes ts
    rw [List.length_append]
    split
    · simp only [List.length_nil]; omega
    · rw [List.length_map]; omega
end
theorem rawL_len (x : Str) (h : Hd) (n : Nat) : ∀ (i : Nat) (ts : List Tr), (rawL x h n i ts).length ≤ Tr.sizes ts
  | _, [] => Nat.le_refl _
  | i, t :: ts => by
    have h1 := uses_len x t
    have h2 := rawL_len x h n (i + 1) ts
    show ((if x ∈ under h n i then [] else _) ++ rawL x h n (i + 1) ts).length ≤ t.size + Tr.sizes ts
    rw [List.length_append]
    split
    · simp only [List.length_nil]; omega
    · rw [List.length_map]; omega
def useD (p : List Int × Str) : PyData := .tuple [pathI p.1, .str p.2]
theorem flat_useD (p : List Int × Str) : flatD (useD p) = true := by
  have := flatDs_ints p.1
  simp [useD, pathI, flatD, flatDs, this]
theorem flat_usesD (l : List (List Int × Str)) : flatDs (l.map useD) = true := flatDs_of _ fun d hd => by
  obtain ⟨p, _, rfl⟩ := List.mem_map.mp hd
  exact flat_useD p
mutual
theorem use_ok (x : Str) : ∀ t : Tr, ∀ p ∈ t.uses x, p.1.length ≤ t.size ∧ sok p.2
  | .mk h ps, p, m => by
    have m' : p ∈ baseU x h ++ Tr.usesL x h ps.length 0 ps := m
    rcases List.mem_append.mp m' with m' | m'
    · cases h with
      | name y =>
        have m2 : p ∈ (if y = x then [([], "read")] else [] : List (List Int × Str)) := m'
        split at m2
        · rw [List.mem_singleton.mp m2]; exact ⟨Nat.zero_le _, by decide +kernel⟩
        · cases m2
      | one w y =>
        have m2 : p ∈ (if w = "set" ∧ y = x then [([], "set")] else [] : List (List Int × Str)) := m'
        split at m2
        · rw [List.mem_singleton.mp m2]; exact ⟨Nat.zero_le _, by decide +kernel⟩
        · cases m2
      | _ => cases m'
    · have := useL_ok x h ps.length 0 ps p m'
      exact ⟨by show p.1.length ≤ Tr.sizes ps + 1; omega, this.2⟩
theorem useL_ok (x : Str) (h : Hd) (n : Nat) : ∀ (i : Nat) (ts : List Tr), ∀ p ∈ Tr.usesL x h n i ts, p.1.length ≤ Tr.sizes ts + 1 ∧ sok p.2
  | _, [], _, m => by cases m
  | i, t :: ts, p, m => by
    have m' : p ∈ (if x ∈ under h n i then [] else (t.uses x).map fun p => (((i : Nat) : Int) :: p.1, hw (cal h n i t) p.2)) ++ Tr.usesL x h n (i + 1) ts := m
    rcases List.mem_append.mp m' with m' | m'
    · split at m'
      · cases m'
      · obtain ⟨q, hq, rfl⟩ := List.mem_map.mp m'
        have := use_ok x t q hq
        refine ⟨?_, ?_⟩
        · show q.1.length + 1 ≤ t.size + Tr.sizes ts + 1
          omega
        · show sok (if cal h n i t = true then "called" else q.2 : Str)
          split
          · decide +kernel
          · exact this.2
    · have := useL_ok x h n (i + 1) ts p m'
      exact ⟨by show p.1.length ≤ t.size + Tr.sizes ts + 1; omega, this.2⟩
end
/-- the first use of a call of a name -/
theorem raw_call {x : Str} {y : Str} {b : Tr} (e : y = x) : ∃ r : List (List Int × Str), rawL x .call 2 0 [.mk (.name y) [], b] = ([0], ("read" : Str)) :: r ∧ Tr.usesL x .call 2 0 [.mk (.name y) [], b] = ([0], ("called" : Str)) :: r := by
  refine ⟨(b.uses x).map fun p => (((1 : Nat) : Int) :: p.1, p.2), ?_, ?_⟩
  · show (if x ∈ under .call 2 0 then [] else ((Tr.mk (.name y) []).uses x).map _) ++ ((if x ∈ under .call 2 1 then [] else _) ++ []) = _
    have e1 : (Tr.mk (.name y) []).uses x = [([], ("read" : Str))] := by
      show (if y = x then [([], "read")] else [] : List (List Int × Str)) ++ [] = _
      rw [if_pos e]; rfl
    rw [if_neg (by intro z; cases z), if_neg (by intro z; cases z), e1, List.append_nil]
    rfl
  · show (if x ∈ under .call 2 0 then [] else ((Tr.mk (.name y) []).uses x).map _) ++ ((if x ∈ under .call 2 1 then [] else _) ++ []) = _
    have e1 : (Tr.mk (.name y) []).uses x = [([], ("read" : Str))] := by
      show (if y = x then [([], "read")] else [] : List (List Int × Str)) ++ [] = _
      rw [if_pos e]; rfl
    rw [if_neg (by intro z; cases z), if_neg (by intro z; cases z), e1, List.append_nil]
    rfl
theorem enc_hd (h : Hd) (ds : List PyData) : ∃ r, encH h ds = .tuple (.str (wd h) :: r) ∧ (∀ y, h = .name y → r = [.str y]) := by
  cases h with
  | name y => exact ⟨_, rfl, fun z e => by cases e; rfl⟩
  | _ => exact ⟨_, rfl, fun z e => by cases e⟩
theorem eq_nameT {h : Hd} {n : Nat} (o : hok h n) (ds : List PyData) (x : Str) : PyData.eqv (encH h ds) (.tuple [.str "name", .str x]) = isNm x h := by
  obtain ⟨r, e, er⟩ := enc_hd h ds
  rw [e]
  have e2 := eq_name o
  rw [decS] at e2
  by_cases q : isName h = true
  · cases h with
    | name y =>
      rw [er y rfl]
      show PyData.eqvAll [.str "name", .str y] [.str "name", .str x] = decide (y = x)
      simp [PyData.eqvAll, PyData.eqv]
      by_cases z : y = x <;> simp [z]
    | _ => cases q
  · have q' : isName h = false := by cases z : isName h with | true => exact absurd z q | false => rfl
    rw [q'] at e2
    have q2 : ¬ wd h = "name" := of_decide_eq_false e2
    have q3 : isNm x h = false := by
      cases h with
      | name y => exact absurd rfl q
      | _ => rfl
    rw [q3]
    show PyData.eqvAll (.str (wd h) :: r) [.str "name", .str x] = false
    simp [PyData.eqvAll, PyData.eqv, q2]
/-- a name that is no longer free is not used -/
theorem cal_no {x : Str} {t : Tr} (o : t.ok) (n : isName t.hd = true) (e : isNm x t.hd = false) : t.uses x = [] := by
  cases t with
  | mk h ps =>
    have o' : hok h ps.length ∧ ps.length ≤ 11 ∧ Tr.oks ps := o
    cases h with
    | name y =>
      have e0 : ps = [] := List.length_eq_zero_iff.mp o'.1.1
      subst e0
      have e' : ¬ y = x := of_decide_eq_false e
      show (if y = x then [([], "read")] else [] : List (List Int × Str)) ++ [] = []
      rw [if_neg e']; rfl
    | _ => cases n

/-! ### small facts on parts -/
theorem okP {h : Hd} {ps : List Tr} (o : (Tr.mk h ps).ok) : hok h ps.length ∧ ps.length ≤ 11 ∧ ∀ t ∈ ps, t.ok := by
  have o' : hok h ps.length ∧ ps.length ≤ 11 ∧ Tr.oks ps := o
  exact ⟨o'.1, o'.2.1, fun t m => oks_iff.mp o'.2.2 t m⟩
theorem encLat {ps : List Tr} {i : Nat} {d : PyData} (h : (Tr.encL ps)[i]? = some d) : ∃ c, ps[i]? = some c ∧ d = c.enc := by
  rw [encL_map] at h
  obtain ⟨c, e1, e2⟩ := map_at h
  exact ⟨c, e1, e2⟩
theorem takeNext {α : Type} {xs : List α} {i : Nat} {c : α} (h : xs[i]? = some c) : xs.take (i + 1) = xs.take i ++ [c] ∧ (xs.take i).length = i := by
  refine ⟨by rw [List.take_add_one, h]; rfl, ?_⟩
  have := (List.getElem?_eq_some_iff.mp h).1
  rw [List.length_take]
  omega
theorem encsInv {K : PySem.W.Frag} {H : Hp} {v : V} {xs : List Str} (h : Dp K H v (encs xs)) : ∃ q, v = .ref q ∧ SqT K H q (xs.map V.str) := by
  obtain ⟨q, vs, rfl, hq, hv⟩ := dp_tup h
  rw [dpAll_strs_inv hv] at hq
  exact ⟨q, rfl, hq⟩
theorem sizeMem {t : Tr} : ∀ {ps : List Tr}, t ∈ ps → t.size ≤ Tr.sizes ps
  | a :: ps, h => by
    show t.size ≤ a.size + Tr.sizes ps
    rcases List.mem_cons.mp h with rfl | h
    · omega
    · have := sizeMem h
      omega
theorem sizesTake : ∀ (ps : List Tr) (i : Nat), Tr.sizes (ps.take i) ≤ Tr.sizes ps
  | [], i => by rw [List.take_nil]; exact Nat.le_refl _
  | a :: ps, 0 => Nat.zero_le _
  | a :: ps, i + 1 => by
    have := sizesTake ps i
    show a.size + Tr.sizes (ps.take i) ≤ a.size + Tr.sizes ps
    omega
theorem useD_inv {K : PySem.W.Frag} {H : Hp} {v : V} {p : List Int × Str} (h : Dp K H v (useD p)) : ∃ a b, v = .ref a ∧ SqT K H a [.ref b, .str p.2] ∧ SqT K H b (p.1.map V.int) := by
  obtain ⟨a, its, rfl, hs, hi⟩ := dp_tup h
  cases hi with
  | cons h1 h2 =>
    cases h2 with
    | cons h3 h4 =>
      cases h4
      obtain ⟨b, rfl, hb⟩ := pathI_inv h1
      rw [dp_str h3] at hs
      exact ⟨a, b, rfl, hs, hb⟩
theorem dp_useD {K : PySem.W.Frag} {H : Hp} {a b : Addr} {p : List Int × Str} (h : SqT K H a [.ref b, .str p.2]) (hb : SqT K H b (p.1.map V.int)) : Dp K H (.ref a) (useD p) :=
  .tup h (.cons (dp_pathI hb) (.cons (.str _) .nil))
theorem name_only {x : Str} {h : Hd} {ps : List Tr} (o : hok h ps.length) (e : isNm x h = true) : h = .name x ∧ ps = [] := by
  cases h with
  | name y =>
    rw [of_decide_eq_true (show decide (y = x) = true from e)]
    exact ⟨rfl, List.length_eq_zero_iff.mp o.1⟩
  | _ => cases e
end Cm

set_option linter.all false
/-! trees whose set names are held in pairs: sound, narrow, not too deep -/
namespace Cm
open PySem L2 PySem.Spec PyProof.Rows
def nwH : Hd → Prop
  | .fn xs => xs.length ≤ 10
  | _ => True
mutual
def Tr.nw : Tr → Prop
  | .mk h ps => nwH h ∧ Tr.nws ps
def Tr.nws : List Tr → Prop
  | [] => True
  | t :: ts => t.nw ∧ Tr.nws ts
end
theorem nws_iff : ∀ {ps : List Tr}, Tr.nws ps ↔ ∀ t ∈ ps, t.nw
  | [] => by simp [Tr.nws]
  | t :: ts => by
    show t.nw ∧ Tr.nws ts ↔ _
    rw [nws_iff]
    simp
theorem held_len {h : Hd} {n : Nat} (o : hok h n) (l : n ≤ 11) (nw : nwH h) : (held h).length ≤ 10 := by
  cases h with
  | fn xs => exact nw
  | one w x =>
    show (if w = "set" then [] else [x] : List Str).length ≤ 10
    split <;> simp
  | bind w xs =>
    have := o.1
    show xs.length ≤ 10
    omega
  | _ => exact Nat.zero_le _
theorem anew_sub {h : Hd} {ps : List Tr} {x : Str} (m : x ∈ anewOf h ps) : x ∈ held h := (List.mem_filter.mp m).1
theorem anew_len {h : Hd} {ps : List Tr} (o : hok h ps.length) (l : ps.length ≤ 11) (w : nwH h) : (anewOf h ps).length ≤ 10 := Nat.le_trans (List.length_filter_le _ _) (held_len o l w)
theorem okmk {h : Hd} {ps : List Tr} (a : hok h ps.length) (b : ps.length ≤ 11) (c : ∀ t ∈ ps, t.ok ∧ t.nw) (d : nwH h) : (Tr.mk h ps).ok ∧ (Tr.mk h ps).nw := ⟨⟨a, b, oks_iff.mpr fun t m => (c t m).1⟩, d, nws_iff.mpr fun t m => (c t m).2⟩
theorem ok_nameT {x : Str} (h : sok x) : (nameT x).ok ∧ (nameT x).nw := okmk ⟨rfl, h⟩ (Nat.zero_le _) (fun t m => by cases m) trivial
theorem ok_noneT : noneT.ok ∧ noneT.nw := okmk ⟨rfl, by decide +kernel⟩ (Nat.zero_le _) (fun t m => by cases m) trivial
theorem ok_pairT {t : Tr} (h : t.ok ∧ t.nw) : (pairT t).ok ∧ (pairT t).nw := okmk (show sok "pair" by decide +kernel) (by show 2 ≤ 11; decide) (fun u m => by
  rcases List.mem_cons.mp m with rfl | m
  · exact h
  · rw [List.mem_singleton.mp m]; exact ok_noneT) trivial
theorem ok_fillT {x : Str} {t : Tr} (hx : sok x) (h : t.ok ∧ t.nw) : (fillT x t).ok ∧ (fillT x t).nw := okmk (show sok "left!" by decide +kernel) (by show 2 ≤ 11; decide) (fun u m => by
  rcases List.mem_cons.mp m with rfl | m
  · exact ok_nameT hx
  · rw [List.mem_singleton.mp m]; exact h) trivial
theorem last_len {α : Type} {qs : List α} {n : Nat} (h : qs.length = n + 1) : (qs.drop (qs.length - 1)).length = 1 := by rw [List.length_drop]; omega
theorem ok_wrap {anew : List Str} {h : Hd} {qs : List Tr} (o : hok h qs.length) (l : qs.length ≤ 11) (c : ∀ t ∈ qs, t.ok ∧ t.nw) (w : nwH h) (an : ∀ x ∈ anew, sok x) (al : anew.length ≤ 10) (ne : anew ≠ [] → qs.length ≠ 0) : (wrapL anew h qs).ok ∧ (wrapL anew h qs).nw := by
  unfold wrapL
  split
  · exact okmk o l c w
  · rename_i e
    have := ne e
    have e1 : (qs.take (qs.length - 1)).length = qs.length - 1 := by rw [List.length_take]; omega
    have e2 : (qs.drop (qs.length - 1)).length = 1 := by rw [List.length_drop]; omega
    have e3 : (qs.take (qs.length - 1) ++ [Tr.mk (.bind "let" anew) ((anew.map fun x => pairT (nameT x)) ++ qs.drop (qs.length - 1))]).length = qs.length := by
      rw [List.length_append, e1]
      show qs.length - 1 + 1 = _
      omega
    refine okmk (by rw [e3]; exact o) (by rw [e3]; exact l) (fun t m => ?_) w
    rcases List.mem_append.mp m with m | m
    · exact c t (List.mem_of_mem_take m)
    · rw [List.mem_singleton.mp m]
      have e4 : ((anew.map fun x => pairT (nameT x)) ++ qs.drop (qs.length - 1)).length = anew.length + 1 := by rw [List.length_append, List.length_map, e2]
      refine okmk ⟨e4, by decide +kernel, an⟩ (by rw [e4]; omega) (fun u mu => ?_) trivial
      rcases List.mem_append.mp mu with mu | mu
      · obtain ⟨x, mx, rfl⟩ := List.mem_map.mp mu
        exact ok_pairT (ok_nameT (an x mx))
      · exact c u (List.mem_of_mem_drop mu)
theorem filt_len {α : Type} (p : α → Bool) (l : List α) : (l.filter p).length + (l.filter fun x => !p x).length = l.length := by
  induction l with
  | nil => rfl
  | cons a l ih =>
    by_cases z : p a = true
    · rw [List.filter_cons_of_pos z, List.filter_cons_of_neg (by simp [z]), List.length_cons, List.length_cons]
      omega
    · rw [List.filter_cons_of_neg z, List.filter_cons_of_pos (by simpa using z), List.length_cons, List.length_cons]
      omega
theorem ok_recP {xs anew : List Str} {qs : List Tr} (hl : qs.length = xs.length + 1) (l : qs.length ≤ 11) (c : ∀ t ∈ qs, t.ok ∧ t.nw) (sx : ∀ x ∈ xs, sok x) (an : ∀ x ∈ anew, sok x) (al : anew.length ≤ 10) : (recP xs anew qs).ok ∧ (recP xs anew qs).nw := by
  have zp : ∀ r ∈ xs.zip qs, sok r.1 ∧ r.2.ok ∧ r.2.nw := fun r m => by
    have m' := List.of_mem_zip (show (r.1, r.2) ∈ xs.zip qs from m)
    exact ⟨sx _ m'.1, c _ m'.2⟩
  have zl : (xs.zip qs).length = xs.length := by rw [List.length_zip]; omega
  have fl := filt_len (fun r : Str × Tr => decide (r.1 ∈ anew)) (xs.zip qs)
  have dl : (qs.drop xs.length).length = 1 := by rw [List.length_drop]; omega
  have inn : (Tr.mk .doo ((((xs.zip qs).filter fun r => decide (r.1 ∈ anew)).map fun r => fillT r.1 r.2) ++ qs.drop xs.length)).ok ∧ (Tr.mk .doo ((((xs.zip qs).filter fun r => decide (r.1 ∈ anew)).map fun r => fillT r.1 r.2) ++ qs.drop xs.length)).nw := by
    refine okmk trivial ?_ (fun t m => ?_) trivial
    · rw [List.length_append, List.length_map, dl]
      omega
    · rcases List.mem_append.mp m with m | m
      · obtain ⟨r, mr, rfl⟩ := List.mem_map.mp m
        have z := zp r (List.mem_filter.mp mr).1
        exact ok_fillT z.1 z.2
      · exact c t (List.mem_of_mem_drop m)
  unfold recP
  refine okmk ⟨?_, by decide +kernel, an⟩ ?_ (fun t m => ?_) trivial
  · rw [List.length_append, List.length_map]
    rfl
  · rw [List.length_append, List.length_map]
    show anew.length + 1 ≤ 11
    omega
  · rcases List.mem_append.mp m with m | m
    · obtain ⟨x, _, rfl⟩ := List.mem_map.mp m
      exact ok_pairT ok_noneT
    · rw [List.mem_singleton.mp m]
      split
      · exact inn
      · have el : (((xs.zip qs).filter fun r => !decide (r.1 ∈ anew)).map (·.2) ++ [Tr.mk .doo ((((xs.zip qs).filter fun r => decide (r.1 ∈ anew)).map fun r => fillT r.1 r.2) ++ qs.drop xs.length)]).length = (((xs.zip qs).filter fun r => !decide (r.1 ∈ anew)).map (·.1)).length + 1 := by
          rw [List.length_append, List.length_map, List.length_map]
          rfl
        refine okmk ⟨el, by decide +kernel, fun x mx => ?_⟩ ?_ (fun u mu => ?_) trivial
        · obtain ⟨r, mr, rfl⟩ := List.mem_map.mp mx
          exact (zp r (List.mem_filter.mp mr).1).1
        · rw [el, List.length_map]
          omega
        · rcases List.mem_append.mp mu with mu | mu
          · obtain ⟨r, mr, rfl⟩ := List.mem_map.mp mu
            exact (zp r (List.mem_filter.mp mr).1).2
          · rw [List.mem_singleton.mp mu]
            exact inn
theorem ok_shape {hs : Str → Bool} {anew : List Str} {qs : List Tr} {h : Hd} (o : hok h qs.length) (l : qs.length ≤ 11) (c : ∀ t ∈ qs, t.ok ∧ t.nw) (nw : nwH h) (an : ∀ x ∈ anew, x ∈ held h) (al : anew.length ≤ 10) : (shapeP hs anew qs h).ok ∧ (shapeP hs anew qs h).nw := by
  have sa : ∀ x ∈ anew, sok x := fun x m => held_sok o x (an x m)
  have n0 : ∀ x ∈ anew, qs.length ≠ 0 := fun x m => by
    have m' := an x m
    cases h with
    | fn xs => have := o.1; omega
    | one w y => have := o.1; omega
    | bind w xs => have := o.1; omega
    | _ => cases m'
  have wr : (wrapL anew h qs).ok ∧ (wrapL anew h qs).nw := ok_wrap o l c nw sa al fun ne => by
    cases anew with
    | nil => exact absurd rfl ne
    | cons x r => exact n0 x List.mem_cons_self
  cases h with
  | name x =>
    show (if hs x = true then Tr.mk (.op "left") [nameT x] else .mk (.name x) qs).ok ∧ (if hs x = true then Tr.mk (.op "left") [nameT x] else .mk (.name x) qs).nw
    split
    · exact okmk (show sok "left" by decide +kernel) (by show 1 ≤ 11; decide) (fun t m => by rw [List.mem_singleton.mp m]; exact ok_nameT o.2) trivial
    · exact okmk o l c nw
  | one w x =>
    show (if w = "set" then Tr.mk (.op "left!") (nameT x :: qs) else wrapL anew (.one w x) qs).ok ∧ (if w = "set" then Tr.mk (.op "left!") (nameT x :: qs) else wrapL anew (.one w x) qs).nw
    split
    · have := o.1
      refine okmk (show sok "left!" by decide +kernel) (by rw [List.length_cons]; omega) (fun t m => ?_) trivial
      rcases List.mem_cons.mp m with rfl | m
      · exact ok_nameT o.2.2
      · exact c t m
    · exact wr
  | bind w xs =>
    show (if w = "rec" ∧ anew ≠ [] then recP xs anew qs else wrapL anew (.bind w xs) qs).ok ∧ (if w = "rec" ∧ anew ≠ [] then recP xs anew qs else wrapL anew (.bind w xs) qs).nw
    split
    · exact ok_recP o.1 l c o.2.2 sa al
    · exact wr
  | num i => exact wr
  | lit i => exact wr
  | fn i => exact wr
  | doo => exact wr
  | call => exact wr
  | op i => exact wr
  | plain i => exact wr
mutual
theorem ok_plain (hs : Str → Bool) : ∀ t : Tr, t.ok → t.nw → (t.plain hs).ok ∧ (t.plain hs).nw
  | .mk h ps, o, n => by
    have o' : hok h ps.length ∧ ps.length ≤ 11 ∧ Tr.oks ps := o
    have n' : nwH h ∧ Tr.nws ps := n
    have pl := plains_len (scopeP hs h ps.length (anewOf h ps)) 0 ps
    have c := ok_plains (scopeP hs h ps.length (anewOf h ps)) 0 ps o'.2.2 n'.2
    exact ok_shape (by rw [pl]; exact o'.1) (by rw [pl]; exact o'.2.1) (fun t m => ⟨oks_iff.mp c.1 t m, nws_iff.mp c.2 t m⟩) n'.1 (fun x m => anew_sub m) (anew_len o'.1 o'.2.1 n'.1)
theorem ok_plains (sc : Nat → Str → Bool) : ∀ (i : Nat) (ps : List Tr), Tr.oks ps → Tr.nws ps → Tr.oks (Tr.plains sc i ps) ∧ Tr.nws (Tr.plains sc i ps)
  | _, [], _, _ => ⟨trivial, trivial⟩
  | i, t :: ts, o, n => by
    have o' : t.ok ∧ Tr.oks ts := o
    have n' : t.nw ∧ Tr.nws ts := n
    have a := ok_plain (sc i) t o'.1 n'.1
    have b := ok_plains sc (i + 1) ts o'.2 n'.2
    exact ⟨⟨a.1, b.1⟩, ⟨a.2, b.2⟩⟩
end
/-! ### how deep the data is, without and with pairs -/
def lw : Hd → Nat → Nat
  | .bind w xs, i => if i < xs.length then (if w = "rec" then 6 else 3) else (if w = "rec" then 4 else 2)
  | .doo, _ => 2
  | .call, _ => 2
  | .op _, _ => 2
  | .fn _, _ => 2
  | .one _ _, _ => 2
  | _, _ => 1
def lo : Hd → Nat
  | .name _ => 3
  | .fn _ => 7
  | .one _ _ => 7
  | .bind _ _ => 8
  | .doo => 2
  | .call => 2
  | .op _ => 2
  | _ => 1
mutual
def Tr.ld : Tr → Nat
  | .mk h ps => max (lo h) (Tr.lds h 0 ps)
def Tr.lds : Hd → Nat → List Tr → Nat
  | _, _, [] => 0
  | h, i, t :: ts => max (lw h i + t.ld) (Tr.lds h (i + 1) ts)
end
theorem lds_le {h : Hd} {n : Nat} : ∀ {ps : List Tr} {i : Nat}, Tr.lds h i ps ≤ n ↔ ∀ j t, ps[j]? = some t → lw h (i + j) + t.ld ≤ n
  | [], i => by simp [Tr.lds]
  | t :: ts, i => by
    have ih := lds_le (h := h) (n := n) (ps := ts) (i := i + 1)
    show max (lw h i + t.ld) (Tr.lds h (i + 1) ts) ≤ n ↔ _
    rw [Nat.max_le, ih]
    constructor
    · rintro ⟨h1, h2⟩ j u e
      cases j with
      | zero => cases e; exact h1
      | succ j => have := h2 j u e; rwa [show i + 1 + j = i + (j + 1) by omega] at this
    · exact fun z => ⟨z 0 t rfl, fun j u e => by have := z (j + 1) u e; rwa [show i + (j + 1) = i + 1 + j by omega] at this⟩
theorem ld_le {h : Hd} {ps : List Tr} {n : Nat} : (Tr.mk h ps).ld ≤ n ↔ lo h ≤ n ∧ ∀ j t, ps[j]? = some t → lw h j + t.ld ≤ n := by
  show max (lo h) (Tr.lds h 0 ps) ≤ n ↔ _
  rw [Nat.max_le, lds_le]
  simp
theorem lay1 {n : Nat} {a : PyData} (h : Lay n a) : Lay (n + 1) (.tuple [a]) := .tup fun d m => by rw [List.mem_singleton.mp m]; exact h
theorem lay2 {n : Nat} {a b : PyData} (h : Lay n a) (k : Lay n b) : Lay (n + 1) (.tuple [a, b]) := .tup fun d m => by
  rcases List.mem_cons.mp m with rfl | m
  · exact h
  · rw [List.mem_singleton.mp m]; exact k
theorem lay3 {n : Nat} {a b c : PyData} (h : Lay n a) (k : Lay n b) (j : Lay n c) : Lay (n + 1) (.tuple [a, b, c]) := .tup fun d m => by
  rcases List.mem_cons.mp m with rfl | m
  · exact h
  rcases List.mem_cons.mp m with rfl | m
  · exact k
  · rw [List.mem_singleton.mp m]; exact j
theorem lay_nameT {x : Str} (h : sok x) : Lay 1 (nameT x).enc := lay2 (.str (by decide +kernel) 0) (.str h 0)
theorem lay_noneT : Lay 1 noneT.enc := lay1 (.str (by decide +kernel) 0)
theorem lay_op {o : Str} {ds : List PyData} {n : Nat} (ho : sok o) (h : ∀ d ∈ ds, Lay n d) : Lay (n + 2) (.tuple [.str "op", .str o, .tuple ds]) := lay3 (.str (by decide +kernel) _) (.str ho _) (.tup h)
theorem lay_pairT {n : Nat} {t : Tr} (h : Lay (n + 1) t.enc) : Lay (n + 3) (pairT t).enc := lay_op (by decide +kernel) fun d m => by
  rcases List.mem_cons.mp m with rfl | m
  · exact h
  · rw [List.mem_singleton.mp m]; exact lay_noneT.mono (by omega)
theorem lay_fillT {n : Nat} {x : Str} {t : Tr} (hx : sok x) (h : Lay (n + 1) t.enc) : Lay (n + 3) (fillT x t).enc := lay_op (by decide +kernel) fun d m => by
  rcases List.mem_cons.mp m with rfl | m
  · exact (lay_nameT hx).mono (by omega)
  · rw [List.mem_singleton.mp m]; exact h
end Cm

set_option linter.all false
namespace Cm
open PySem L2 PySem.Spec PyProof.Rows
def ew : Hd → Nat → Nat
  | .bind _ xs, i => if i < xs.length then 3 else 1
  | .doo, _ => 2
  | .call, _ => 2
  | .op _, _ => 2
  | _, _ => 1
def eo : Hd → Nat
  | .num _ => 1
  | .name _ => 1
  | .lit _ => 1
  | .plain _ => 1
  | _ => 2
theorem lay_cons {n : Nat} {a : PyData} {ds : List PyData} (h : Lay n a) (k : ∀ d ∈ ds, Lay n d) : Lay (n + 1) (.tuple (a :: ds)) := .tup fun d m => by
  rcases List.mem_cons.mp m with rfl | m
  · exact h
  · exact k d m
theorem lay_encP {h : Hd} {ds : List PyData} {n : Nat} (o : hok h ds.length) (hd : ∀ j d, ds[j]? = some d → ∃ m, Lay m d ∧ ew h j + m ≤ n) (he : eo h ≤ n) : Lay n (encH h ds) := by
  have all : ∀ k, (∀ j, ew h j = k) → ∀ d ∈ ds, ∃ m, Lay m d ∧ k + m ≤ n := fun k hk d m => by
    obtain ⟨j, e⟩ := List.getElem?_of_mem m
    obtain ⟨q, a, b⟩ := hd j d e
    exact ⟨q, a, by rw [hk j] at b; exact b⟩
  obtain ⟨n, rfl⟩ : ∃ k, n = k + 1 := ⟨n - 1, by
    have : 1 ≤ eo h := by cases h <;> simp [eo]
    omega⟩
  have one : (∀ j, ew h j = 1) → ∀ d ∈ ds, Lay n d := fun hk d m => by
    obtain ⟨q, a, b⟩ := all 1 hk d m
    exact a.mono (by omega)
  cases h with
  | num i => exact lay2 (.str (by decide +kernel) n) (.int i n)
  | name x => exact lay2 (.str (by decide +kernel) n) (.str o.2 n)
  | lit w =>
    refine lay1 (.str ?_ n)
    exact words_sok w (by simp [o.2])
  | one w x =>
    refine lay_cons (.str (words_sok w (by simp [o.2.1])) n) fun d m => ?_
    rcases List.mem_cons.mp m with rfl | m
    · exact .str o.2.2 n
    · exact one (fun _ => rfl) d m
  | plain w => exact lay_cons (.str (words_sok w (by simp [show w ∈ plainW from o])) n) (one fun _ => rfl)
  | fn xs =>
    have : 2 ≤ n + 1 := he
    refine lay_cons (.str (by decide +kernel) n) fun d m => ?_
    rcases List.mem_cons.mp m with rfl | m
    · exact (Lay.tup (n := 0) fun d m => by obtain ⟨x, mx, rfl⟩ := List.mem_map.mp m; exact .str (o.2.2 x mx) 0).mono (by omega)
    · exact one (fun _ => rfl) d m
  | doo =>
    have : 2 ≤ n + 1 := he
    obtain ⟨n, rfl⟩ : ∃ k, n = k + 1 := ⟨n - 1, by omega⟩
    exact lay2 (.str (by decide +kernel) _) (.tup fun d m => by
      obtain ⟨q, a, b⟩ := all 2 (fun _ => rfl) d m
      exact a.mono (by omega))
  | op p =>
    have : 2 ≤ n + 1 := he
    obtain ⟨n, rfl⟩ : ∃ k, n = k + 1 := ⟨n - 1, by omega⟩
    exact lay3 (.str (by decide +kernel) _) (.str o _) (.tup fun d m => by
      obtain ⟨q, a, b⟩ := all 2 (fun _ => rfl) d m
      exact a.mono (by omega))
  | call =>
    have : 2 ≤ n + 1 := he
    obtain ⟨n, rfl⟩ : ∃ k, n = k + 1 := ⟨n - 1, by omega⟩
    refine lay_cons (.str (by decide +kernel) _) fun d m => ?_
    have al := all 2 (fun _ => rfl)
    rcases List.mem_append.mp m with m | m
    · obtain ⟨q, a, b⟩ := al d (List.mem_of_mem_take m)
      exact a.mono (by omega)
    · rw [List.mem_singleton.mp m]
      exact .tup fun d m => by
        obtain ⟨q, a, b⟩ := al d (List.mem_of_mem_drop m)
        exact a.mono (by omega)
  | bind w xs =>
    have : 2 ≤ n + 1 := he
    refine lay_cons (.str (words_sok w (by simp [o.2.1])) n) fun d m => ?_
    have hl := o.1
    rcases List.mem_cons.mp m with rfl | m
    · by_cases z : xs = []
      · subst z
        exact (Lay.tup (n := 0) fun d m => by cases m).mono (by omega)
      · have h3 : ∃ k, n = k + 2 := by
          cases xs with
          | nil => exact absurd rfl z
          | cons x xs =>
            obtain ⟨d0, e0⟩ : ∃ d, ds[0]? = some d := ⟨ds[0]'(by rw [hl]; simp), List.getElem?_eq_getElem _⟩
            obtain ⟨q, a, b⟩ := hd 0 d0 e0
            have : ew (.bind w (x :: xs)) 0 = 3 := by
              show (if 0 < (x :: xs).length then 3 else 1) = 3
              simp
            exact ⟨n - 2, by omega⟩
        obtain ⟨k, rfl⟩ := h3
        refine .tup fun d m => ?_
        obtain ⟨r, mr, rfl⟩ := List.mem_map.mp m
        have mz := List.of_mem_zip (show (r.1, r.2) ∈ xs.zip ds from mr)
        refine lay2 (.str (o.2.2 r.1 mz.1) _) ?_
        obtain ⟨j, ej⟩ := List.getElem?_of_mem mr
        obtain ⟨e1, e2⟩ := List.getElem?_zip_eq_some.mp ej
        obtain ⟨q, a, b⟩ := hd j r.2 e2
        have hj : j < xs.length := (List.getElem?_eq_some_iff.mp e1).1
        have : ew (.bind w xs) j = 3 := if_pos hj
        exact a.mono (by omega)
    · obtain ⟨j, ej⟩ := List.getElem?_of_mem m
      rw [List.getElem?_drop] at ej
      obtain ⟨q, a, b⟩ := hd _ d ej
      have : ew (.bind w xs) (xs.length + j) = 1 := if_neg (by omega)
      exact a.mono (by omega)
theorem ew_lw (h : Hd) (i : Nat) : ew h i ≤ lw h i := by
  cases h with
  | bind w xs =>
    show (if i < xs.length then 3 else 1) ≤ if i < xs.length then (if w = "rec" then 6 else 3) else (if w = "rec" then 4 else 2)
    split <;> split <;> decide
  | _ => exact Nat.le_of_ble_eq_true rfl
theorem eo_lo (h : Hd) : eo h ≤ lo h := by cases h <;> exact Nat.le_of_ble_eq_true rfl
theorem lay_ps {h : Hd} {ps : List Tr} {n : Nat} (o : hok h ps.length) (hd : ∀ j t, ps[j]? = some t → ∃ m, Lay m t.enc ∧ ew h j + m ≤ n) (he : eo h ≤ n) : Lay n (Tr.mk h ps).enc :=
  lay_encP (by rw [encL_len]; exact o) (fun j d e => by
    rw [encL_map, List.getElem?_map] at e
    obtain ⟨t, e1, rfl⟩ := Option.map_eq_some_iff.mp e
    exact hd j t e1) he
theorem lay_ld (t : Tr) : t.ok → Lay t.ld t.enc := by
  refine tr_ind (P := fun t => t.ok → Lay t.ld t.enc) (fun h ps ih => ?_) t
  intro o
  have o' : hok h ps.length ∧ ps.length ≤ 11 ∧ Tr.oks ps := o
  have e := ld_le.mp (Nat.le_refl (Tr.mk h ps).ld)
  refine lay_ps o'.1 (fun j t ej => ?_) (Nat.le_trans (eo_lo h) e.1)
  have m := List.mem_of_getElem? ej
  exact ⟨t.ld, ih t m (oks_iff.mp o'.2.2 t m), by have := e.2 j t ej; have := ew_lw h j; omega⟩
theorem lay_let {anew : List Str} {ts : List Tr} {n : Nat} (an : ∀ x ∈ anew, sok x) (f : Str → Tr) (hf : ∀ x ∈ anew, Lay 1 (f x).enc) (h1 : ts.length = 1) (hl : ∀ t ∈ ts, Lay n t.enc) : Lay (max 6 (n + 1)) (Tr.mk (.bind "let" anew) ((anew.map fun x => pairT (f x)) ++ ts)).enc := by
  refine lay_ps ⟨by rw [List.length_append, List.length_map, h1], by decide +kernel, an⟩ (fun j t ej => ?_) (by show 2 ≤ _; omega)
  by_cases hj : j < anew.length
  · rw [List.getElem?_append_left (by rw [List.length_map]; exact hj), List.getElem?_map] at ej
    obtain ⟨x, ex, rfl⟩ := Option.map_eq_some_iff.mp ej
    refine ⟨3, lay_pairT (n := 0) (hf x (List.mem_of_getElem? ex)), ?_⟩
    rw [show ew (.bind "let" anew) j = 3 from if_pos hj]
    omega
  · rw [List.getElem?_append_right (by rw [List.length_map]; omega)] at ej
    refine ⟨n, hl t (List.mem_of_getElem? ej), ?_⟩
    rw [show ew (.bind "let" anew) j = 1 from if_neg hj]
    omega
theorem lay_wrap {anew : List Str} {h : Hd} {qs : List Tr} {n : Nat} (o : hok h qs.length) (an : ∀ x ∈ anew, sok x) (ne : anew ≠ [] → qs.length ≠ 0 ∧ 7 ≤ n ∧ ew h (qs.length - 1) = 1 ∧ 2 ≤ lw h (qs.length - 1)) (hd : ∀ j t, qs[j]? = some t → ∃ m, Lay m t.enc ∧ lw h j + m ≤ n) (he : eo h ≤ n) : Lay n (wrapL anew h qs).enc := by
  unfold wrapL
  split
  · exact lay_ps o (fun j t e => by obtain ⟨m, a, b⟩ := hd j t e; exact ⟨m, a, by have := ew_lw h j; omega⟩) he
  · rename_i e
    obtain ⟨n0, n7, n1, n2⟩ := ne e
    have e1 : (qs.take (qs.length - 1)).length = qs.length - 1 := by rw [List.length_take]; omega
    have e2 : (qs.drop (qs.length - 1)).length = 1 := by rw [List.length_drop]; omega
    have e3 : ∀ z : Tr, (qs.take (qs.length - 1) ++ [z]).length = qs.length := fun z => by
      rw [List.length_append, e1]
      show qs.length - 1 + 1 = _
      omega
    refine lay_ps (by rw [e3]; exact o) (fun j t ej => ?_) he
    by_cases hj : j < qs.length - 1
    · rw [List.getElem?_append_left (by rw [e1]; exact hj), List.getElem?_take_of_lt hj] at ej
      obtain ⟨m, a, b⟩ := hd j t ej
      exact ⟨m, a, by have := ew_lw h j; omega⟩
    · rw [List.getElem?_append_right (by rw [e1]; omega), e1] at ej
      have hj2 : j = qs.length - 1 := by
        have := (List.getElem?_eq_some_iff.mp ej).1
        simp at this
        omega
      subst hj2
      rw [Nat.sub_self] at ej
      cases ej
      obtain ⟨q, eq⟩ : ∃ q, qs[qs.length - 1]? = some q := ⟨qs[qs.length - 1]'(by omega), List.getElem?_eq_getElem _⟩
      obtain ⟨m, a, b⟩ := hd _ q eq
      refine ⟨_, lay_let (n := m) an nameT (fun x mx => lay_nameT (an x mx)) e2 fun t mt => ?_, ?_⟩
      · obtain ⟨i, ei⟩ := List.getElem?_of_mem mt
        rw [List.getElem?_drop] at ei
        have : i = 0 := by
          have := (List.getElem?_eq_some_iff.mp ei).1
          omega
        subst this
        rw [Nat.add_zero, eq] at ei
        cases ei
        exact a
      · rw [n1]
        omega
theorem lay_recP {xs anew : List Str} {qs : List Tr} {n : Nat} (hl : qs.length = xs.length + 1) (sx : ∀ x ∈ xs, sok x) (an : ∀ x ∈ anew, sok x) (n8 : 8 ≤ n) (hd : ∀ j t, qs[j]? = some t → ∃ m, Lay m t.enc ∧ lw (.bind "rec" xs) j + m ≤ n) : Lay n (recP xs anew qs).enc := by
  have zp : ∀ r ∈ xs.zip qs, sok r.1 ∧ Lay (n - 6) r.2.enc := fun r mr => by
    have mz := List.of_mem_zip (show (r.1, r.2) ∈ xs.zip qs from mr)
    obtain ⟨j, ej⟩ := List.getElem?_of_mem mr
    obtain ⟨e1, e2⟩ := List.getElem?_zip_eq_some.mp ej
    obtain ⟨m, a, b⟩ := hd j r.2 e2
    have hj : j < xs.length := (List.getElem?_eq_some_iff.mp e1).1
    rw [show lw (.bind "rec" xs) j = 6 from (if_pos hj).trans (if_pos rfl)] at b
    exact ⟨sx _ mz.1, a.mono (by omega)⟩
  have lst : ∀ t ∈ qs.drop xs.length, Lay (n - 4) t.enc := fun t mt => by
    obtain ⟨i, ei⟩ := List.getElem?_of_mem mt
    rw [List.getElem?_drop] at ei
    obtain ⟨m, a, b⟩ := hd _ t ei
    rw [show lw (.bind "rec" xs) (xs.length + i) = 4 from (if_neg (by omega)).trans (if_pos rfl)] at b
    exact a.mono (by omega)
  have dl : (qs.drop xs.length).length = 1 := by rw [List.length_drop]; omega
  have inn : Lay (n - 2) (Tr.mk .doo ((((xs.zip qs).filter fun r => decide (r.1 ∈ anew)).map fun r => fillT r.1 r.2) ++ qs.drop xs.length)).enc := by
    refine lay_ps trivial (fun j t ej => ?_) (by show 2 ≤ _; omega)
    rcases List.mem_append.mp (List.mem_of_getElem? ej) with m | m
    · obtain ⟨r, mr, rfl⟩ := List.mem_map.mp m
      have z := zp r (List.mem_filter.mp mr).1
      exact ⟨n - 7 + 3, lay_fillT z.1 (z.2.mono (by omega)), by show 2 + _ ≤ _; omega⟩
    · exact ⟨n - 4, lst t m, by show 2 + _ ≤ _; omega⟩
  unfold recP
  refine (lay_let (n := n - 1) an (fun _ => noneT) (fun _ _ => lay_noneT) rfl fun t mt => ?_).mono (by omega)
  rw [List.mem_singleton.mp mt]
  split
  · exact inn.mono (by omega)
  · have el : (((xs.zip qs).filter fun r => !decide (r.1 ∈ anew)).map (·.2) ++ [Tr.mk .doo ((((xs.zip qs).filter fun r => decide (r.1 ∈ anew)).map fun r => fillT r.1 r.2) ++ qs.drop xs.length)]).length = (((xs.zip qs).filter fun r => !decide (r.1 ∈ anew)).map (·.1)).length + 1 := by
      rw [List.length_append, List.length_map, List.length_map]
      rfl
    refine lay_ps ⟨el, by decide +kernel, fun x mx => ?_⟩ (fun j t ej => ?_) (by show 2 ≤ _; omega)
    · obtain ⟨r, mr, rfl⟩ := List.mem_map.mp mx
      exact (zp r (List.mem_filter.mp mr).1).1
    · by_cases hj : j < (((xs.zip qs).filter fun r => !decide (r.1 ∈ anew)).map (·.1)).length
      · rw [List.getElem?_append_left (by rw [List.length_map] at hj ⊢; exact hj), List.getElem?_map] at ej
        obtain ⟨r, er, rfl⟩ := Option.map_eq_some_iff.mp ej
        refine ⟨n - 6, (zp r (List.mem_filter.mp (List.mem_of_getElem? er)).1).2, ?_⟩
        rw [show ew (.bind "rec" (((xs.zip qs).filter fun r => !decide (r.1 ∈ anew)).map (·.1))) j = 3 from if_pos hj]
        omega
      · rw [List.getElem?_append_right (by rw [List.length_map] at hj ⊢; omega)] at ej
        rw [List.mem_singleton.mp (List.mem_of_getElem? ej)]
        refine ⟨n - 2, inn, ?_⟩
        rw [show ew (.bind "rec" (((xs.zip qs).filter fun r => !decide (r.1 ∈ anew)).map (·.1))) j = 1 from if_neg hj]
        omega
end Cm

set_option linter.all false
namespace Cm
open PySem L2 PySem.Spec PyProof.Rows
theorem lay_shape {hs : Str → Bool} {anew : List Str} {qs : List Tr} {h : Hd} {n : Nat} (o : hok h qs.length) (an : ∀ x ∈ anew, x ∈ held h) (hd : ∀ j t, qs[j]? = some t → ∃ m, Lay m t.enc ∧ lw h j + m ≤ n) (he : lo h ≤ n) : Lay n (shapeP hs anew qs h).enc := by
  have sa : ∀ x ∈ anew, sok x := fun x m => held_sok o x (an x m)
  have eh := Nat.le_trans (eo_lo h) he
  have no : held h = [] → anew = [] := fun e => by
    cases anew with
    | nil => rfl
    | cons x r => have := an x List.mem_cons_self; rw [e] at this; cases this
  have wr0 : held h = [] → Lay n (wrapL anew h qs).enc := fun e => lay_wrap o sa (fun ne => absurd (no e) ne) hd eh
  cases h with
  | name x =>
    show Lay n (if hs x = true then Tr.mk (.op "left") [nameT x] else .mk (.name x) qs).enc
    have h3 : 3 ≤ n := he
    split
    · exact (lay_op (n := 1) (by decide +kernel) fun d m => by rw [List.mem_singleton.mp m]; exact lay_nameT o.2).mono h3
    · exact lay_ps o (fun j t e => by obtain ⟨m, a, b⟩ := hd j t e; exact ⟨m, a, b⟩) eh
  | one w x =>
    show Lay n (if w = "set" then Tr.mk (.op "left!") (nameT x :: qs) else wrapL anew (.one w x) qs).enc
    have h7 : 7 ≤ n := he
    split
    · obtain ⟨n, rfl⟩ : ∃ k, n = k + 2 := ⟨n - 2, by omega⟩
      refine lay_op (by decide +kernel) fun d m => ?_
      rcases List.mem_cons.mp m with rfl | m
      · exact (lay_nameT o.2.2).mono (by omega)
      · have m' : d ∈ qs.map Tr.enc := by rw [← encL_map]; exact m
        obtain ⟨t, mt, rfl⟩ := List.mem_map.mp m'
        obtain ⟨j, ej⟩ := List.getElem?_of_mem mt
        obtain ⟨q, a, b⟩ := hd j t ej
        have : lw (.one w x) j = 2 := rfl
        exact a.mono (by omega)
    · exact lay_wrap o sa (fun _ => ⟨by have := o.1; omega, h7, rfl, Nat.le_refl _⟩) hd eh
  | bind w xs =>
    show Lay n (if w = "rec" ∧ anew ≠ [] then recP xs anew qs else wrapL anew (.bind w xs) qs).enc
    have h8 : 8 ≤ n := he
    have hl : qs.length = xs.length + 1 := o.1
    split
    · rename_i e
      rw [e.1] at hd
      exact lay_recP hl o.2.2 sa h8 hd
    · refine lay_wrap o sa (fun _ => ⟨by omega, by omega, ?_, ?_⟩) hd eh
      · exact if_neg (by omega)
      · show 2 ≤ if qs.length - 1 < xs.length then (if w = "rec" then 6 else 3) else (if w = "rec" then 4 else 2)
        split <;> split <;> decide
  | fn xs =>
    have h7 : 7 ≤ n := he
    exact lay_wrap o sa (fun _ => ⟨by have := o.1; omega, h7, rfl, Nat.le_refl _⟩) hd eh
  | num i => exact wr0 rfl
  | lit i => exact wr0 rfl
  | doo => exact wr0 rfl
  | call => exact wr0 rfl
  | op i => exact wr0 rfl
  | plain i => exact wr0 rfl
theorem lay_plain (t : Tr) : t.ok → ∀ hs, Lay t.ld (t.plain hs).enc := by
  refine tr_ind (P := fun t => t.ok → ∀ hs, Lay t.ld (t.plain hs).enc) (fun h ps ih => ?_) t
  intro o hs
  have o' : hok h ps.length ∧ ps.length ≤ 11 ∧ Tr.oks ps := o
  have e := ld_le.mp (Nat.le_refl (Tr.mk h ps).ld)
  have pl := plains_len (scopeP hs h ps.length (anewOf h ps)) 0 ps
  refine lay_shape (by rw [pl]; exact o'.1) (fun x m => anew_sub m) (fun j q ej => ?_) e.1
  rw [plains_at] at ej
  obtain ⟨t, e1, rfl⟩ := Option.map_eq_some_iff.mp ej
  have m := List.mem_of_getElem? e1
  exact ⟨t.ld, ih t m (oks_iff.mp o'.2.2 t m) _, e.2 j t e1⟩
/-! the levels of a tree are no more than its data's -/
theorem depth_mem {d : PyData} : ∀ {ds : List PyData}, d ∈ ds → d.depth ≤ PyData.depthAll ds
  | [], m => by cases m
  | a :: ds, m => by
    simp only [PyData.depthAll]
    rcases List.mem_cons.mp m with rfl | m
    · omega
    · have := depth_mem m
      omega
theorem depth_tup {d : PyData} {ds : List PyData} (m : d ∈ ds) : d.depth + 1 ≤ (PyData.tuple ds).depth := by
  have := depth_mem m
  simp only [PyData.depth]
  omega
theorem depth_part {h : Hd} {ds : List PyData} {d : PyData} (o : hok h ds.length) (m : d ∈ ds) : d.depth + 1 ≤ (encH h ds).depth := by
  cases h with
  | num i => rw [List.length_eq_zero_iff.mp (show ds.length = 0 from o)] at m; cases m
  | name x => rw [List.length_eq_zero_iff.mp (show ds.length = 0 from o.1)] at m; cases m
  | lit x => rw [List.length_eq_zero_iff.mp (show ds.length = 0 from o.1)] at m; cases m
  | one w x => exact depth_tup (List.mem_cons_of_mem _ (List.mem_cons_of_mem _ m))
  | fn xs => exact depth_tup (List.mem_cons_of_mem _ (List.mem_cons_of_mem _ m))
  | plain w => exact depth_tup (List.mem_cons_of_mem _ m)
  | doo =>
    have a := depth_tup m
    have b := depth_tup (d := .tuple ds) (ds := [.str "do", .tuple ds]) (by simp)
    show _ ≤ (PyData.tuple [.str "do", .tuple ds]).depth
    omega
  | op p =>
    have a := depth_tup m
    have b := depth_tup (d := .tuple ds) (ds := [.str "op", .str p, .tuple ds]) (by simp)
    show _ ≤ (PyData.tuple [.str "op", .str p, .tuple ds]).depth
    omega
  | call =>
    show _ ≤ (PyData.tuple (.str "call" :: (ds.take 1 ++ [.tuple (ds.drop 1)]))).depth
    rw [← List.take_append_drop 1 ds] at m
    rcases List.mem_append.mp m with m | m
    · exact depth_tup (List.mem_cons_of_mem _ (List.mem_append_left _ m))
    · have a := depth_tup m
      have b := depth_tup (d := .tuple (ds.drop 1)) (ds := .str "call" :: (ds.take 1 ++ [.tuple (ds.drop 1)])) (by simp)
      omega
  | bind w xs =>
    have hl : ds.length = xs.length + 1 := o.1
    show _ ≤ (PyData.tuple (.str w :: .tuple ((xs.zip ds).map rowD) :: ds.drop xs.length)).depth
    obtain ⟨j, ej⟩ := List.getElem?_of_mem m
    have hj := (List.getElem?_eq_some_iff.mp ej).1
    by_cases z : j < xs.length
    · have mz : rowD (xs[j], d) ∈ (xs.zip ds).map rowD := by
        refine List.mem_map.mpr ⟨(xs[j], d), List.mem_of_getElem? (i := j) ?_, rfl⟩
        exact List.getElem?_zip_eq_some.mpr ⟨List.getElem?_eq_getElem z, ej⟩
      have a := depth_tup mz
      have b := depth_tup (d := d) (ds := [.str xs[j], d]) (by simp)
      have c := depth_tup (d := .tuple ((xs.zip ds).map rowD)) (ds := .str w :: .tuple ((xs.zip ds).map rowD) :: ds.drop xs.length) (by simp)
      have e : (rowD (xs[j], d)).depth = (PyData.tuple [.str xs[j], d]).depth := rfl
      omega
    · refine depth_tup (List.mem_cons_of_mem _ (List.mem_cons_of_mem _ ?_))
      have : (ds.drop xs.length)[j - xs.length]? = some d := by rw [List.getElem?_drop, show xs.length + (j - xs.length) = j by omega]; exact ej
      exact List.mem_of_getElem? this
theorem dep_depth (t : Tr) : t.ok → t.dep ≤ t.enc.depth := by
  refine tr_ind (P := fun t => t.ok → t.dep ≤ t.enc.depth) (fun h ps ih => ?_) t
  intro o
  have o' : hok h ps.length ∧ ps.length ≤ 11 ∧ Tr.oks ps := o
  obtain ⟨k, hk⟩ : ∃ k, (Tr.mk h ps).enc.depth = k + 1 := ⟨(Tr.mk h ps).enc.depth - 1, by
    have : 1 ≤ (encH h (Tr.encL ps)).depth := by cases h <;> simp [encH, PyData.depth]
    have e0 : (Tr.mk h ps).enc.depth = (encH h (Tr.encL ps)).depth := rfl
    omega⟩
  rw [hk]
  refine dep_mk.mpr fun t m => ?_
  have a := ih t m (oks_iff.mp o'.2.2 t m)
  have b := depth_part (h := h) (ds := Tr.encL ps) (d := t.enc) (by rw [encL_len]; exact o'.1) (by rw [encL_map]; exact List.mem_map.mpr ⟨t, m, rfl⟩)
  have c : (encH h (Tr.encL ps)).depth = k + 1 := hk
  omega
theorem dep_ld {t : Tr} (o : t.ok) : t.dep ≤ t.ld := Nat.le_trans (dep_depth t o) (lay_ld t o).dep
theorem dep_plain {t : Tr} (o : t.ok) (n : t.nw) (hs : Str → Bool) : (t.plain hs).dep ≤ t.ld := Nat.le_trans (dep_depth _ (ok_plain hs t o n).1) (lay_plain t o hs).dep
/-! how many forms -/
theorem sizes_app : ∀ a b : List Tr, Tr.sizes (a ++ b) = Tr.sizes a + Tr.sizes b
  | [], b => by simp [Tr.sizes]
  | t :: a, b => by
    show t.size + Tr.sizes (a ++ b) = t.size + Tr.sizes a + Tr.sizes b
    rw [sizes_app a b]
    omega
theorem sizes_cut (n : Nat) (qs : List Tr) : Tr.sizes (qs.take n) + Tr.sizes (qs.drop n) = Tr.sizes qs := by rw [← sizes_app, List.take_append_drop]
theorem sizes_pairs {f : Str → Tr} (hf : ∀ x, (f x).size = 1) : ∀ xs : List Str, Tr.sizes (xs.map fun x => pairT (f x)) = 3 * xs.length
  | [] => rfl
  | x :: xs => by
    show (pairT (f x)).size + Tr.sizes (xs.map fun x => pairT (f x)) = 3 * (xs.length + 1)
    rw [sizes_pairs hf xs]
    have : (pairT (f x)).size = ((f x).size + (0 + 1 + 0)) + 1 := rfl
    rw [this, hf]
    omega
theorem sizes_rows (p : Str × Tr → Bool) : ∀ l : List (Str × Tr), Tr.sizes ((l.filter p).map fun r => fillT r.1 r.2) + Tr.sizes ((l.filter fun r => !p r).map (·.2)) ≤ Tr.sizes (l.map (·.2)) + 2 * l.length
  | [] => Nat.le_refl _
  | r :: l => by
    have ih := sizes_rows p l
    by_cases z : p r = true
    · rw [List.filter_cons_of_pos z, List.filter_cons_of_neg (by simp [z])]
      show (fillT r.1 r.2).size + Tr.sizes ((l.filter p).map fun r => fillT r.1 r.2) + _ ≤ r.2.size + Tr.sizes (l.map (·.2)) + 2 * (l.length + 1)
      have : (fillT r.1 r.2).size = ((0 + 1) + (r.2.size + 0)) + 1 := rfl
      omega
    · rw [List.filter_cons_of_neg z, List.filter_cons_of_pos (by simpa using z)]
      show _ + (r.2.size + Tr.sizes ((l.filter fun r => !p r).map (·.2))) ≤ r.2.size + Tr.sizes (l.map (·.2)) + 2 * (l.length + 1)
      omega
theorem sizes_zip : ∀ (xs : List Str) (qs : List Tr), xs.length ≤ qs.length → Tr.sizes ((xs.zip qs).map (·.2)) = Tr.sizes (qs.take xs.length)
  | [], qs, _ => by simp [Tr.sizes]
  | x :: xs, [], h => by simp at h
  | x :: xs, q :: qs, h => by
    show q.size + Tr.sizes ((xs.zip qs).map (·.2)) = q.size + Tr.sizes (qs.take xs.length)
    rw [sizes_zip xs qs (by simpa using h)]
theorem size_shape {hs : Str → Bool} {anew : List Str} {qs : List Tr} {h : Hd} (o : hok h qs.length) (l : qs.length ≤ 11) (al : anew.length ≤ 10) : (shapeP hs anew qs h).size ≤ 60 + Tr.sizes qs := by
  have wr : (wrapL anew h qs).size ≤ 60 + Tr.sizes qs := by
    unfold wrapL
    split
    · show Tr.sizes qs + 1 ≤ _; omega
    · show Tr.sizes (_ ++ [Tr.mk _ _]) + 1 ≤ _
      rw [sizes_app]
      show Tr.sizes _ + ((Tr.sizes ((anew.map fun x => pairT (nameT x)) ++ qs.drop (qs.length - 1)) + 1) + 0) + 1 ≤ _
      rw [sizes_app, sizes_pairs (f := nameT) (fun _ => rfl)]
      have := sizes_cut (qs.length - 1) qs
      omega
  cases h with
  | name x =>
    show (if hs x = true then Tr.mk (.op "left") [nameT x] else .mk (.name x) qs).size ≤ _
    split
    · show (0 + 1) + 0 + 1 ≤ _; omega
    · show Tr.sizes qs + 1 ≤ _; omega
  | one w x =>
    show (if w = "set" then Tr.mk (.op "left!") (nameT x :: qs) else wrapL anew (.one w x) qs).size ≤ _
    split
    · show (0 + 1) + Tr.sizes qs + 1 ≤ _; omega
    · exact wr
  | bind w xs =>
    show (if w = "rec" ∧ anew ≠ [] then recP xs anew qs else wrapL anew (.bind w xs) qs).size ≤ _
    have hl : qs.length = xs.length + 1 := o.1
    split
    · unfold recP
      show Tr.sizes ((anew.map fun _ => pairT noneT) ++ [_]) + 1 ≤ _
      rw [sizes_app, sizes_pairs (f := fun _ => noneT) (fun _ => rfl)]
      have a := sizes_rows (fun r : Str × Tr => decide (r.1 ∈ anew)) (xs.zip qs)
      rw [sizes_zip xs qs (by omega), List.length_zip] at a
      have b := sizes_cut xs.length qs
      have inn : (Tr.mk .doo ((((xs.zip qs).filter fun r => decide (r.1 ∈ anew)).map fun r => fillT r.1 r.2) ++ qs.drop xs.length)).size = Tr.sizes (((xs.zip qs).filter fun r => decide (r.1 ∈ anew)).map fun r => fillT r.1 r.2) + Tr.sizes (qs.drop xs.length) + 1 := by
        show Tr.sizes _ + 1 = _
        rw [sizes_app]
      split
      · show _ + ((Tr.mk .doo ((((xs.zip qs).filter fun r => decide (r.1 ∈ anew)).map fun r => fillT r.1 r.2) ++ qs.drop xs.length)).size + 0) + 1 ≤ _
        rw [inn]
        omega
      · show _ + (Tr.sizes (_ ++ [Tr.mk .doo _]) + 1 + 0) + 1 ≤ _
        rw [sizes_app]
        show _ + (Tr.sizes _ + ((Tr.mk .doo ((((xs.zip qs).filter fun r => decide (r.1 ∈ anew)).map fun r => fillT r.1 r.2) ++ qs.drop xs.length)).size + 0) + 1 + 0) + 1 ≤ _
        rw [inn]
        omega
    · exact wr
  | num i => exact wr
  | lit i => exact wr
  | fn i => exact wr
  | doo => exact wr
  | call => exact wr
  | op i => exact wr
  | plain i => exact wr
mutual
theorem size_plain (hs : Str → Bool) : ∀ t : Tr, t.ok → t.nw → (t.plain hs).size ≤ 60 * t.size
  | .mk h ps, o, n => by
    have o' : hok h ps.length ∧ ps.length ≤ 11 ∧ Tr.oks ps := o
    have n' : nwH h ∧ Tr.nws ps := n
    have pl := plains_len (scopeP hs h ps.length (anewOf h ps)) 0 ps
    have a := sizes_plain (scopeP hs h ps.length (anewOf h ps)) 0 ps o'.2.2 n'.2
    have b := size_shape (hs := hs) (anew := anewOf h ps) (qs := Tr.plains (scopeP hs h ps.length (anewOf h ps)) 0 ps) (h := h) (by rw [pl]; exact o'.1) (by rw [pl]; exact o'.2.1) (anew_len o'.1 o'.2.1 n'.1)
    show (shapeP hs (anewOf h ps) _ h).size ≤ 60 * (Tr.sizes ps + 1)
    omega
theorem sizes_plain (sc : Nat → Str → Bool) : ∀ (i : Nat) (ps : List Tr), Tr.oks ps → Tr.nws ps → Tr.sizes (Tr.plains sc i ps) ≤ 60 * Tr.sizes ps
  | _, [], _, _ => Nat.le_refl _
  | i, t :: ts, o, n => by
    have o' : t.ok ∧ Tr.oks ts := o
    have n' : t.nw ∧ Tr.nws ts := n
    have a := size_plain (sc i) t o'.1 n'.1
    have b := sizes_plain sc (i + 1) ts o'.2 n'.2
    show (t.plain (sc i)).size + Tr.sizes (Tr.plains sc (i + 1) ts) ≤ 60 * (t.size + Tr.sizes ts)
    omega
end
end Cm

namespace K04
open PySem L2 Cm
theorem take_one {α : Type} {xs : List α} {m : Nat} {y : α} (h : xs[m]? = some y) : xs.take (m + 1) = xs.take m ++ [y] := by
  obtain ⟨hm, e⟩ := List.getElem?_eq_some_iff.mp h
  rw [← e, List.take_append_getElem hm]
theorem nd_len {α : Type} [DecidableEq α] : ∀ {F G : List α}, F.Nodup → (∀ b ∈ F, b ∈ G) → F.length ≤ G.length
  | [], _, _, _ => Nat.zero_le _
  | a :: F, G, n, h => by
    have ha := h a List.mem_cons_self
    obtain ⟨n1, n2⟩ := List.nodup_cons.mp n
    have ih := nd_len (F := F) (G := G.erase a) n2 fun b m => (List.mem_erase_of_ne fun z => n1 (by rw [← z]; exact m)).mpr (h b (List.mem_cons_of_mem _ m))
    rw [List.length_erase_of_mem ha] at ih
    have := List.length_pos_of_mem ha
    rw [List.length_cons]
    omega
theorem under_held {h : Hd} {n i : Nat} {x : Str} (m : x ∈ under h n i) : x ∈ held h := by
  unfold under at m
  split at m
  · cases m
  · exact m
theorem held100 {h : Hd} {m : Nat} (o : hok h m) (l : m ≤ 11) : (held h).length ≤ 100 := by
  have := under_len o l (m + 1) m
  unfold under at this
  rw [if_neg (fun z => by omega)] at this
  exact this
theorem range_filt (p : Str → Bool) (l : List Str) : (List.range l.length).filterMap (fun i => (l[i]?).bind fun x => if p x = true then some (PyData.str x) else none) = (l.filter p).map PyData.str := by
  induction l with
  | nil => rfl
  | cons a l ih =>
    rw [List.length_cons, List.range_succ_eq_map, List.filterMap_cons, List.filter_cons, List.filterMap_map]
    by_cases z : p a = true
    · simp only [List.getElem?_cons_zero, Option.bind_some, z, if_true]
      exact congrArg _ ih
    · simp only [List.getElem?_cons_zero, Option.bind_some, if_neg z]
      exact ih
def spPairOf (K : PySem.W.Frag) : Sp := fun vs H Q _ => ∃ (v : V) (t : Tr), vs = [v] ∧ Dp K H v t.enc ∧ ∀ (r : V) (H' : Hp), Same H H' → Dp K H' r (pairT t).enc → Q r H'
def spFilled (K : PySem.W.Frag) : Sp := fun vs H Q _ => ∃ (x : Str) (v : V) (t : Tr), vs = [.str x, v] ∧ Dp K H v t.enc ∧ ∀ (r : V) (H' : Hp), Same H H' → Dp K H' r (fillT x t).enc → Q r H'
def spHeldN (K : PySem.W.Frag) : Sp := fun vs H Q _ => ∃ (v : V) (h : Hd) (ps : List Tr), vs = [v] ∧ Dp K H v (Tr.mk h ps).enc ∧ (Tr.mk h ps).ok ∧ (Tr.mk h ps).dep ≤ 70 ∧ (Tr.mk h ps).size ≤ 1000000 ∧
  ∀ (r : Addr) (H' : Hp), Same H H' → SqT K H' r ((anewOf h ps).map V.str) → Q (.ref r) H'
section
variable {P : Program} {w : World} {K : PySem.W.Frag} {mg : Str → Option Value} {base : Heap}
abbrev s_p_pair_of : Stmt := top 12
abbrev N_p_pair_of : List Str := ["tree"]
theorem sc_p_pair_of : FnScope N_p_pair_of ["tree"] (defScope s_p_pair_of) := ⟨rfl, rfl, rfl, by decide +kernel, rfl, by decide +kernel, by decide +kernel⟩
theorem ok_pair_of (D : At K mg "_pair_of" s_p_pair_of ["tree"]) : Cl P w K mg base 1 "_pair_of" (spPairOf K) := by
  refine cl_of D sc_p_pair_of (fun vs H Q E h => ?_) fun f cdv A outer s H vs Q E hr h => ?_
  · obtain ⟨v, t, rfl, _⟩ := h
    rfl
  · obtain ⟨v, t, rfl, hd, k⟩ := h
    refine ⟨_, (pss_one (ps_ret (pe_tup (pa_cons pe_str (pa_cons pe_str (pa_cons (pe_tup (pa_cons (pv 0) (pa_cons (pe_tup (pa_cons pe_str pa_nil)) pa_nil))) pa_nil)))))), ?_⟩
    refine ⟨_, rfl, by show 1 ≤ sizeLine; decide, fun q1 hq1 => ⟨by show 2 ≤ sizeLine; decide, fun q2 hq2 => ⟨by show 3 ≤ sizeLine; decide, fun q3 hq3 => ?_⟩⟩⟩
    have s1 := same_new (o := .tup [V.str "none"]) hq1
    have s2 := same_new (o := .tup [v, V.ref q1]) hq2
    have s3 := same_new (o := .tup [V.str "op", V.str "pair", V.ref q2]) hq3
    have s23 := s2.trans s3
    refine k _ _ (s1.trans s23) (.tup (.inl (.inl upd_same)) (.cons (.str _) (.cons (.str _) (.cons (.tup (.inl (.inl (s3 _ _ upd_same))) (.cons (dp_same (s1.trans s23) _ _ hd) (.cons (.tup (.inl (.inl (s23 _ _ upd_same))) (.cons (.str _) .nil)) .nil))) .nil))))
abbrev s_p_filled : Stmt := top 13
abbrev N_p_filled : List Str := ["name", "tree"]
theorem sc_p_filled : FnScope N_p_filled ["name", "tree"] (defScope s_p_filled) := ⟨rfl, rfl, rfl, by decide +kernel, rfl, by decide +kernel, by decide +kernel⟩
theorem ok_filled (D : At K mg "_filled" s_p_filled ["name", "tree"]) : Cl P w K mg base 1 "_filled" (spFilled K) := by
  refine cl_of D sc_p_filled (fun vs H Q E h => ?_) fun f cdv A outer s H vs Q E hr h => ?_
  · obtain ⟨x, v, t, rfl, _⟩ := h
    rfl
  · obtain ⟨x, v, t, rfl, hd, k⟩ := h
    refine ⟨_, (pss_one (ps_ret (pe_tup (pa_cons pe_str (pa_cons pe_str (pa_cons (pe_tup (pa_cons (pe_tup (pa_cons pe_str (pa_cons (pv 0) pa_nil))) (pa_cons (pv 1) pa_nil))) pa_nil)))))), ?_⟩
    refine ⟨_, rfl, by show 2 ≤ sizeLine; decide, fun q1 hq1 => ⟨_, rfl, by show 2 ≤ sizeLine; decide, fun q2 hq2 => ⟨by show 3 ≤ sizeLine; decide, fun q3 hq3 => ?_⟩⟩⟩
    have s1 := same_new (o := .tup [V.str "name", V.str x]) hq1
    have s2 := same_new (o := .tup [V.ref q1, v]) hq2
    have s3 := same_new (o := .tup [V.str "op", V.str "left!", V.ref q2]) hq3
    have s23 := s2.trans s3
    refine k _ _ (s1.trans s23) (.tup (.inl (.inl upd_same)) (.cons (.str _) (.cons (.str _) (.cons (.tup (.inl (.inl (s3 _ _ upd_same))) (.cons (.tup (.inl (.inl (s23 _ _ upd_same))) (.cons (.str _) (.cons (.str _) .nil))) (.cons (dp_same (s1.trans s23) _ _ hd) .nil))) .nil))))
abbrev s_p_held_names : Stmt := top 10
abbrev N_p_held_names : List Str := ["tree", "bound", "changed", "part", "names", "name"]
theorem sc_p_held_names : FnScope N_p_held_names ["tree"] (defScope s_p_held_names) := ⟨rfl, rfl, rfl, by decide +kernel, rfl, by decide +kernel, by decide +kernel⟩
theorem ok_held_names (T : Txt mg) (c_p_parts_of : Cl P w K mg base 1 "parts_of" (spParts K)) (c_p_names_bound : Cl P w K mg base 2 "names_bound" (spBound K)) (c_p_set_names : Cl P w K mg base 74 "set_names" (spNames2 K true)) (D : At K mg "_held_names" s_p_held_names ["tree"]) : Cl P w K mg base 75 "_held_names" (spHeldN K) := by
  refine cl_of (k := 74) D sc_p_held_names (fun vs H Q E h => ?_) fun f cdv A outer s H vs Q E hr h => ?_
  · obtain ⟨v, h, ps, rfl, _⟩ := h
    rfl
  · obtain ⟨v, h, ps, rfl, hd, o, hdep, hsz, k⟩ := h
    have hu := hu_of hr
    obtain ⟨o1, o2, o3⟩ := ok_mk' o
    have fle : flatDs (Tr.encL ps) = true := flat_encL ps
    refine ⟨_, (pss_cons (ps_set (i := 1) sc_p_held_names.nd rfl (Or.inl rfl) (pe_c c_p_names_bound hr (by decide) (by rfl) (pa_cons (pv 0) pa_nil)))
      (pss_cons (ps_if (pt_not (pt_truth (pv 1) (by intro _; rfl)))
        (pss_one (ps_ret (pe_tup pa_nil)))
        pss_nil)
      (pss_cons (ps_set (i := 2) sc_p_held_names.nd rfl (Or.inr rfl) pe_dnewK)
      (pss_mid (ps_for PassesOwn.never rfl (RZ.pi_zipA (by rfl) T.zip (pa_cons (pe_c c_p_parts_of hr (by decide) (by rfl) (pa_cons (pv 0) pa_nil)) (pa_cons (pv 1) pa_nil))) (pg_tup (by rfl) (pgs_cons (pg_name (i := 3) sc_p_held_names.nd rfl (Or.inl rfl)) (pgs_cons (pg_name (i := 4) sc_p_held_names.nd rfl (Or.inl rfl)) pgs_nil)))
        (pss_one (ps_for PassesOwn.never rfl (pi_tup (pe_c c_p_set_names hr (by decide) (by rfl) (pa_cons (pv 3) pa_nil))) (pg_name (i := 5) sc_p_held_names.nd rfl (Or.inl rfl))
          (pss_one (ps_if (pt_cmpR op_in_seq (pv 5) (pv 4) (by rfl))
            (pss_one (ps_dput hu (pv 2) (pv 5) pe_bl rfl))
            pss_nil)))))
      (pss_one (ps_ret (pe_tupleOf (by rfl) T.tuple (pe_lc (own := [("name", 5)]) rfl sc_p_held_names.nd (pi_tup (pe_ix ix_tup (pv 1) (pe_un un_neg pe_int) (fun _ _ => rfl))) (blkOk_by (N := N_p_held_names) (sc := defScope s_p_held_names) (by decide +kernel))
      (fun _ _ _ _ _ => (pg_name (i := 5) sc_p_held_names.nd rfl (Or.inl rfl)))
      (fun _ _ _ _ _ => (pts_one (pt_cmp (pc_din hu (pv 5) (pv 2)))))
      (fun _ _ _ _ _ => (pv 5)))))))))), ?_⟩
    refine ⟨_, rfl, v, h, Tr.encL ps, rfl, hd, by rw [encL_len]; exact o1, fle, by rw [encL_len]; omega, fun t2 us2 H1 s1 ht2 hus2 => ?_⟩
    rw [encL_len] at hus2
    have hul2 : us2.length = ps.length := by
      have := DpAll.len hus2
      rw [this]
      unfold bnds
      rw [List.length_map, List.length_range]
    refine ⟨_, rfl, _, .inr (.inl ⟨_, ht2, rfl⟩), ?_⟩
    rcases Nat.eq_zero_or_pos ps.length with z | pos
    · have e0 : us2 = [] := List.length_eq_zero_iff.mp (by rw [hul2, z])
      have e1 : ps = [] := List.length_eq_zero_iff.mp z
      subst e0 e1
      refine iteT ⟨by show 0 ≤ sizeLine; decide, fun q hq => ?_⟩
      have s2 := same_new (o := .tup ([] : List V)) hq
      have ea : anewOf h [] = [] := by
        unfold anewOf
        rw [List.filter_eq_nil_iff]
        intro x _ e
        cases e
      refine k q _ (s1.trans s2) ?_
      rw [ea]
      exact .inl (.inl upd_same)
    · have ne : us2.isEmpty = false := by
        cases us2 with
        | nil => rw [List.length_nil] at hul2; omega
        | cons a l => rfl
      rw [ne]
      refine iteF fun fd hfd => ?_
      have s2 := same_new (o := .dK []) hfd
      have hd2 := dp_same (s1.trans s2) _ _ hd
      have ht2' := sqt_same s2 ht2
      have hus2' := dps_same s2 _ _ hus2
      have efd : upd H1 fd (.dK []) fd = some (.dK []) := upd_same
      refine ⟨fun σ' H' => ∃ (v3 v4 v5 : Option V) (kvs : List (Key × V)) (ns : List Str), σ' = [some v, some (.ref t2), some (.ref fd), v3, v4, v5] ∧ Kd fd (upd H1 fd (.dK [])) H' ∧ H' fd = some (.dK kvs) ∧ kvs.map (·.1) = ns.map Sum.inr ∧ (∀ x, x ∈ ns ↔ chg h ps.length 0 ps x = true), ?_, ?_⟩
      · refine ⟨_, rfl, v, h, Tr.encL ps, rfl, hd2, by rw [encL_len]; exact o1, fle, by rw [encL_len]; omega, fun t us H3 s3 ht hus => ⟨_, rfl, t, t2, us, us2, rfl, .inr ⟨ht, sqt_same s3 ht2', ?_⟩⟩⟩
        have hul := DpAll.len hus
        rw [encL_len] at hul
        have kd3 : Kd fd (upd H1 fd (.dK [])) H3 := .of_same efd s3
        have hus3 := dps_same s3 _ _ hus2'
        generalize upd H1 fd (.dK []) = H2 at *
        refine for_it (walk_zipT (xs := us) (ys := us2) (n := ps.length) (by omega)) (fun i σ H' => ∃ (v3 v4 v5 : Option V) (kvs : List (Key × V)) (ns : List Str), σ = [some v, some (.ref t2), some (.ref fd), v3, v4, v5] ∧ Kd fd H3 H' ∧ H' fd = some (.dK kvs) ∧ kvs.map (·.1) = ns.map Sum.inr ∧ ns.Nodup ∧ (∀ x ∈ ns, x ∈ held h) ∧
            (∀ x, x ∈ ns ↔ ∃ (j : Nat) (t : Tr), j < i ∧ ps[j]? = some t ∧ x ∈ under h ps.length j ∧ x ∈ t.free true))
          ⟨_, _, _, [], [], rfl, .of_same (s3 _ _ efd) (Same.refl _), s3 _ _ efd, rfl, .nil, (fun x m => by cases m), (fun x => ⟨(fun m => by cases m), (fun ⟨j, t, a, _⟩ => by omega)⟩)⟩ (fun i σ H' _ z => ?_) ?_ ?_
        · obtain ⟨_, _, _, _, _, _, z, _⟩ := z
          exact ⟨z.tup ht, z.tup (sqt_same s3 ht2')⟩
        · rintro i x0 σ H4 H5 hi ⟨v3, v4, v5, kvs, ns, rfl, kd4, hfd4, hks, hnd, hsub, hmem⟩ ⟨T1, x1, x2, rfl, hT, rfl, e1, e2⟩
          have s4 := same_new (o := .tup [x1, x2]) hT
          obtain ⟨d1, g1, g2⟩ := DpAll.atV hus e1
          obtain ⟨c, ec, rfl⟩ := encL_at' g1
          obtain ⟨d2, g3, g4⟩ := DpAll.atV hus3 e2
          rw [under_at hi] at g3
          cases g3
          have kd5 : Kd fd H3 (upd H4 T1 (.tup [x1, x2])) := kd4.trans (.of_same hfd4 s4)
          have fd5 := s4 _ _ hfd4
          refine ⟨T1, _, rfl, .inl (.inl upd_same), rfl, _, _, rfl, _, _, rfl, rfl, ?_⟩
          generalize upd H4 T1 (.tup [x1, x2]) = H5 at *
          obtain ⟨q2, rfl, hq2⟩ := encs_inv (kd5.dp (flat_strs _) g4)
          have hcm : c ∈ ps := List.mem_of_getElem? ec
          have dpc := dep_mk (n := 69) |>.mp hdep c hcm
          have szc := sizeMem hcm
          have hsz' : Tr.sizes ps + 1 ≤ 1000000 := hsz
          refine ⟨_, rfl, x1, c, rfl, kd5.dp (flat_enc c) g2, o3 c hcm, by omega, by omega, fun r ys H6 s6 hr6 hasc hys => ?_⟩
          refine ⟨r, rfl, ⟨_, hr6⟩, ?_⟩
          have kd6 := kd5.trans (.of_same fd5 s6)
          have fd6 := s6 _ _ fd5
          have hul5 := under_len o1 o2 ps.length i
          refine for_it (walk_tup (a := r) (xs := ys.map V.str)) (fun m σ H' => ∃ (v5 : Option V) (kvs : List (Key × V)) (ns : List Str), σ = [some v, some (.ref t2), some (.ref fd), some x1, some (.ref q2), v5] ∧ Kd fd H6 H' ∧ H' fd = some (.dK kvs) ∧ kvs.map (·.1) = ns.map Sum.inr ∧ ns.Nodup ∧ (∀ x ∈ ns, x ∈ held h) ∧
              (∀ x, x ∈ ns ↔ (∃ (j : Nat) (t : Tr), j < i ∧ ps[j]? = some t ∧ x ∈ under h ps.length j ∧ x ∈ t.free true) ∨ (x ∈ ys.take m ∧ x ∈ under h ps.length i)))
            ⟨_, kvs, ns, rfl, .of_same fd6 (Same.refl _), fd6, hks, hnd, hsub, (fun x => by rw [hmem]; simp)⟩ (fun m σ H' _ z => ?_) ?_ ?_
          · obtain ⟨_, _, _, _, z, _⟩ := z
            exact z.tup hr6
          · rintro m x0 σ H7' H7 hm ⟨v5, kvs7, ns7, rfl, kd7, fd7, hks7, hnd7, hsub7, hmem7⟩ ⟨rfl, ex⟩
            obtain ⟨y, ey, rfl⟩ := map_at ex
            have et := take_one ey
            refine ⟨_, rfl, _, rfl, q2, _, rfl, .inr (kd7.tup (sqt_same s6 hq2)), rfl, flat_strV _, _, rfl, ?_⟩
            rw [in_words]
            by_cases zy : y ∈ under h ps.length i
            · rw [decide_eq_true zy]
              refine iteT ⟨_, rfl, _, rfl, fd, _, rfl, DPut.k (k := Sum.inr y) fd7 ?_, ?_⟩
              · have e := congrArg List.length hks7
                rw [List.length_map, List.length_map] at e
                have := nd_len hnd7 hsub7
                have := held100 o1 o2
                rw [e, sizeLine_eq]
                omega
              · refine ⟨_, _, _, rfl, kd7.trans (.put fd7), upd_same, putK_keys hks7 y _, ?_, fun x mx => ?_, fun x => ?_⟩
                · split
                  · exact hnd7
                  · rename_i nm
                    exact List.nodup_append.mpr ⟨hnd7, List.nodup_cons.mpr ⟨List.not_mem_nil, List.nodup_nil⟩, fun a ha b hb e => by
                      rw [List.mem_singleton.mp hb] at e
                      exact nm (e ▸ ha)⟩
                · split at mx
                  · exact hsub7 x mx
                  · rcases List.mem_append.mp mx with mx | mx
                    · exact hsub7 x mx
                    · rw [List.mem_singleton.mp mx]; exact under_held zy
                · rw [et]
                  have key : x ∈ (if y ∈ ns7 then ns7 else ns7 ++ [y]) ↔ x ∈ ns7 ∨ x = y := by
                    split
                    · rename_i nm
                      exact ⟨.inl, fun z => z.elim id fun z => z ▸ nm⟩
                    · rw [List.mem_append, List.mem_singleton]
                  rw [key, hmem7, List.mem_append, List.mem_singleton]
                  constructor
                  · rintro ((z | z) | z)
                    · exact .inl z
                    · exact .inr ⟨.inl z.1, z.2⟩
                    · exact .inr ⟨.inr z, z ▸ zy⟩
                  · rintro (z | ⟨z | z, z'⟩)
                    · exact .inl (.inl z)
                    · exact .inl (.inr ⟨z, z'⟩)
                    · exact .inr z
            · rw [decide_eq_false zy]
              refine iteF ⟨_, _, _, rfl, kd7, fd7, hks7, hnd7, hsub7, fun x => ?_⟩
              rw [et, hmem7, List.mem_append, List.mem_singleton]
              constructor
              · rintro (z | z)
                · exact .inl z
                · exact .inr ⟨.inl z.1, z.2⟩
              · rintro (z | ⟨z | z, z'⟩)
                · exact .inl z
                · exact .inr ⟨z, z'⟩
                · exact absurd (z ▸ z') zy
          · rintro σ H7 ⟨v5, kvs7, ns7, rfl, kd7, fd7, hks7, hnd7, hsub7, hmem7⟩
            rw [List.length_map, List.take_length] at hmem7
            refine ⟨_, _, _, kvs7, ns7, rfl, kd6.trans kd7, fd7, hks7, hnd7, hsub7, fun x => ?_⟩
            rw [hmem7, hys]
            constructor
            · rintro (⟨j, t, a, b, c'⟩ | ⟨a, b⟩)
              · exact ⟨j, t, by omega, b, c'⟩
              · exact ⟨i, c, by omega, ec, b, a⟩
            · rintro ⟨j, t, a, b, c1, c2⟩
              by_cases q : j = i
              · subst q
                rw [ec] at b
                cases b
                exact .inr ⟨c2, c1⟩
              · exact .inl ⟨j, t, by omega, b, c1, c2⟩
        · rintro σ H4 ⟨v3, v4, v5, kvs, ns, rfl, kd4, hfd4, hks, hnd, hsub, hmem⟩
          refine ⟨v3, v4, v5, kvs, ns, rfl, kd3.trans kd4, hfd4, hks, fun x => ?_⟩
          rw [hmem, chg_iff]
          constructor
          · rintro ⟨j, t, a, b, c⟩
            exact ⟨j, t, b, by rw [Nat.zero_add]; exact c.1, c.2⟩
          · rintro ⟨j, t, b, c1, c2⟩
            rw [Nat.zero_add] at c1
            exact ⟨j, t, (List.getElem?_eq_some_iff.mp b).1, b, c1, c2⟩
      · rintro σ1 H5 ⟨v3, v4, v5, kvs, ns, rfl, kd5, hfd5, hks, hmem⟩
        have hus5 : DpAll K H5 us2 (bnds h ps.length) := kd5.dps (flat_bnds h _) hus2'
        have ht5 := kd5.tup ht2'
        obtain ⟨m, em⟩ : ∃ m, ps.length = m + 1 := ⟨ps.length - 1, by omega⟩
        obtain ⟨ul, eul, dul⟩ := DpAll.at hus5 (under_at (h := h) (n := ps.length) (i := m) (by omega))
        have eh : under h ps.length m = held h := by
          unfold under
          rw [if_neg (fun z => by omega)]
        rw [eh] at dul
        obtain ⟨ql, rfl, hql⟩ := encs_inv dul
        have elast : us2 = us2.take m ++ [V.ref ql] := by
          have : m < us2.length := by omega
          have e1 := take_one eul
          rw [← e1, List.take_of_length_le (by omega)]
        have hS : Same H H5 := s1.trans (Kd.over hfd kd5)
        have hlast : atI us2 (-1) = some (V.ref ql) := by
          rw [elast]
          exact atI_last _ _
        refine ⟨_, rfl, _, rfl, t2, _, _, _, rfl, rfl, ht5, hlast, ql, rfl, ⟨_, hql⟩, fun Dc hDc => ?_⟩
        let p : Str → Bool := chg h ps.length 0 ps
        have hl100 := held100 o1 o2
        refine lc_data (K := K) (walk_tup (K := K) (a := ql) (xs := (held h).map V.str)) (fun i => ((held h)[i]?).bind fun x => if p x = true then some (PyData.str x) else none) hDc (by rw [List.length_map]; omega) (fun H' s => sqt_same s hql) (fun i _ d e => ?_) ?_ ?_
        · obtain ⟨b, _, e⟩ := Option.bind_eq_some_iff.mp e
          split at e
          · cases e; rfl
          · cases e
        · rintro i x0 H6' H6 hi s6 ⟨rfl, ex⟩ Q1 Q0 q1 q0
          obtain ⟨y, ey, rfl⟩ := map_at ex
          refine ⟨rfl, _, rfl, _, rfl, fd, _, rfl, DGet.k (k := Sum.inr y) (s6 _ _ hfd5), _, rfl, ?_⟩
          have em2 : (valV kvs (Sum.inr y)).isSome = p y := by
            rw [Bool.eq_iff_iff, ← hmem y, ← valV_any, List.any_eq_true]
            constructor
            · rintro ⟨q, mq, e⟩
              have e' : q.1 = Sum.inr y := of_decide_eq_true e
              have m1 : q.1 ∈ kvs.map (·.1) := List.mem_map.mpr ⟨q, mq, rfl⟩
              rw [hks, e'] at m1
              obtain ⟨z, mz, ez⟩ := List.mem_map.mp m1
              rw [← Sum.inr.inj ez]
              exact mz
            · intro m1
              have m2 : (Sum.inr y : Key) ∈ kvs.map (·.1) := by rw [hks]; exact List.mem_map.mpr ⟨y, m1, rfl⟩
              obtain ⟨q, mq, e⟩ := List.mem_map.mp m2
              exact ⟨q, mq, decide_eq_true e⟩
          rw [em2]
          by_cases z : p y = true
          · rw [z]
            exact iteT ⟨_, rfl, q1 _ _ (.str y) (by rw [ey]; show (if p y = true then some (PyData.str y) else none) = _; rw [if_pos z]) (Same.refl _) (.str _)⟩
          · rw [Bool.not_eq_true] at z
            rw [z]
            exact iteF (q0 _ (by rw [ey]; show (if p y = true then some (PyData.str y) else none) = _; rw [z]; rfl) (Same.refl _))
        · intro H6 acc s6 hacc ha
          rw [List.length_map, range_filt] at ha
          have := dpAll_strs_inv ha
          subst this
          refine .inl ⟨Dc, _, rfl, .inl (.inl hacc), fun q hq => ?_⟩
          exact k q _ ((hS.trans s6).trans (same_new hq)) (.inl (.inl upd_same))
end
end K04

/-! zip of a tuple and a list -/
namespace Cm
open PySem L2 PySem.Spec PyProof.Rows
def ItzM (K : PySem.W.Frag) (a b : Addr) : It :=
  ⟨fun i H => ∃ (xs ys : List V) (x y : V), SqT K H a xs ∧ SqL K H b ys ∧ xs[i]? = some x ∧ ys[i]? = some y,
    fun i H v H' => ∃ T x y, v = .ref T ∧ H T = Option.none ∧ H' = upd H T (.tup [x, y]) ∧ (∀ xs, SqT K H a xs → xs[i]? = some x) ∧ ∀ ys, SqL K H b ys → ys[i]? = some y,
    fun i H => ∃ xs ys : List V, SqT K H a xs ∧ SqL K H b ys ∧ i ≤ xs.length ∧ i ≤ ys.length ∧ (i = xs.length ∨ i = ys.length)⟩
theorem sep_of {z TI TO i1 i2 a b : Addr} (D : ZipApart z TI TO i1 i2 a b) : ZipSep2 z TI TO i1 i2 [i1, a] [i2, b] where
  TIz := D.TIz
  TOz := D.TOz
  TITO := D.TITO
  TIi1 := D.TIi1
  mem1 := by simp
  zf1 := fun h => by
    rcases (show z = i1 ∨ z = a by simpa using h) with q | q
    · exact D.i1z q.symm
    · exact D.l1z q.symm
  Tf1 := fun h => by
    rcases (show TO = i1 ∨ TO = a by simpa using h) with q | q
    · exact D.TOi1 q
    · exact D.l1TO q.symm
  TIi2 := D.TIi2
  mem2 := by simp
  zf2 := fun h => by
    rcases (show z = i2 ∨ z = b by simpa using h) with q | q
    · exact D.i2z q.symm
    · exact D.l2z q.symm
  Tf2 := fun h => by
    rcases (show TO = i2 ∨ TO = b by simpa using h) with q | q
    · exact D.TOi2 q
    · exact D.l2TO q.symm
  sep1_2 := fun h => by
    rcases (show i1 = i2 ∨ i1 = b by simpa using h) with q | q
    · exact D.i12 q
    · exact D.l2i1 q.symm
  sep2_1 := fun h => by
    rcases (show i2 = i1 ∨ i2 = a by simpa using h) with q | q
    · exact D.i12 q.symm
    · exact D.l1i2 q.symm
theorem turn_zipM {P : Program} {w : World} {K : PySem.W.Frag} {elts : List Expr} {kk : Nat} {tpos : Pos} {a b z TI TO i1 i2 : Addr} (D : ZipApart z TI TO i1 i2 a b) :
    Turn P w K (.Tuple elts kk tpos) (ItzM K a b) [z, TI, TO, i1, i2] z (fun i h => IsZip h z TI TO .none ∧ IsPair h TI (.ref i1) (.ref i2) ∧ (∃ x y, IsPair h TO x y) ∧ h.IsTupleIter i1 a i ∧ h.IsListIter i2 b i) where
  mem := by simp
  obj := fun i h st c hc => by
    obtain ⟨hz, hTI, ⟨x, y, hTO⟩, ⟨o1, e1, _, d1⟩, ⟨o2, e2, _, d2⟩⟩ := st
    have e' : c = z ∨ c = TI ∨ c = TO ∨ c = i1 ∨ c = i2 := by simpa using hc
    rcases e' with q | q | q | q | q
    · rw [q]; exact ⟨_, hz, fun v q => nomatch q⟩
    · rw [q]; exact ⟨_, hTI, fun v q => nomatch q⟩
    · rw [q]; exact ⟨_, hTO, fun v q => nomatch q⟩
    · rw [q]; exact ⟨o1, e1, fun v q => by rw [d1] at q; cases q⟩
    · rw [q]; exact ⟨o2, e2, fun v q => by rw [d2] at q; cases q⟩
  keep := fun i h h' st k => by
    obtain ⟨hz, hTI, ⟨x, y, hTO⟩, h1, h2⟩ := st
    exact ⟨k z (by simp) _ hz, k TI (by simp) _ hTI, ⟨x, y, k TO (by simp) _ hTO⟩, h1.at fun o q => k i1 (by simp) o q, h2.at fun o q => k i2 (by simp) o q⟩
  item := by
    intro X hP hw hK hc i pins s σ H E I hf st hg
    subst hP hw hK
    obtain ⟨hz, hTI, ⟨x0, y0, hTO⟩, h1, h2⟩ := st
    obtain ⟨xs, ys, x, y, hqx, hqy, hx, hy⟩ := hg
    obtain ⟨its, rv, p, _⟩ := I.tuple hqx
    obtain ⟨its2, rv2, p2, _⟩ := I.list hqy
    obtain ⟨u, hu, ru⟩ := rv.get hx
    obtain ⟨u2, hu2, ru2⟩ := rv2.get hy
    have hzl : z < s.heap.objs.size := Heap.lt_size hz
    have hh : X.A.in1.handled = Option.none := I.ok.hd hc
    have i1l : i < its.toArray.size := by
      have := List.getElem?_eq_some_iff.mp hu
      simpa using this.1
    have i2l : i < its2.toArray.size := by
      have := List.getElem?_eq_some_iff.mp hu2
      simpa using this.1
    refine wpAny_pyNext_zipD2_item (sep_of D) (Draws.tuple hh i1 a D.l1i1 its.toArray) (Draws.list hh i2 b D.l2i2 its2.toArray) hz hTI hTO ⟨h1, p⟩ ⟨h2, p2.isList⟩ i1l i2l fun x1 x2 h' tk y1 y2 z' TO' st1 st2 hT hsz hk => ?_
    obtain rfl : u = x1 := by
      have : its[i]? = some x1 := by simpa using y1
      rw [hu] at this
      exact Option.some.inj this
    obtain rfl : u2 = x2 := by
      have : its2[i]? = some x2 := by simpa using y2
      rw [hu2] at this
      exact Option.some.inj this
    obtain ⟨h1', _⟩ := st1
    obtain ⟨h2', _⟩ := st2
    refine ⟨_, rfl, wpAny_letOwnedTupleGo_zip (s := { s with heap := h', toks := tk }) z' fun h'' z'' sb => ?_⟩
    have hT2 : h''.get? s.heap.objs.size = some { cls := .type "tuple", data := .seq #[u, u2] } := (sb.2 _ (Nat.ne_of_gt hzl)).trans hT
    have new : ObjOk X.prog X.w (upd H s.heap.objs.size (.tup [x, y])) h'' s.heap.objs.size (.tup [x, y]) :=
      ⟨by show 2 ≤ sizeLine; decide, [u, u2], .cons ru (.cons ru2 .nil), ⟨_, hT2, rfl, _, rfl⟩⟩
    have I1 : Inv X pins σ (upd H s.heap.objs.size (.tup [x, y])) { s with heap := h'', toks := tk } :=
      I.turnedNew (t' := tk) (ch := [z, TI, TO, i1, i2]) (fun c o hb q => (sb.2 c (fun q' => hb (by simp [q']))).trans (hk c o (fun q' => hb (by simp [q'])) (fun q' => hb (by simp [q'])) (fun q' => hb (by simp [q'])) (fun q' => hb (by simp [q'])) q)) hf (Nat.le_refl _) new
    refine ⟨.ref s.heap.objs.size, _, I1, rfl, ⟨_, x, y, rfl, I.hok.fresh (Nat.le_refl _), rfl, fun l hl => by rw [I.tuple_inj hl hqx]; exact hx, fun l hl => by rw [I.list_inj hl hqy]; exact hy⟩, ⟨z'', ?_, ⟨u, u2, ?_⟩, ?_, ?_⟩, fun c hcm => ?_⟩
    · exact (sb.2 _ D.TIz).trans (hk _ _ D.TIz D.TITO D.TIi1 D.TIi2 hTI)
    · exact (sb.2 _ D.TOz).trans TO'
    · exact h1'.at fun o q => (sb.2 _ D.i1z).trans q
    · exact h2'.at fun o q => (sb.2 _ D.i2z).trans q
    · have hlt : c < s.heap.objs.size := by
        have e' : c = z ∨ c = TI ∨ c = TO ∨ c = i1 ∨ c = i2 := by simpa using hcm
        rcases e' with q | q | q | q | q
        · rw [q]; exact hzl
        · rw [q]; exact Heap.lt_size hTI
        · rw [q]; exact Heap.lt_size hTO
        · rw [q]; obtain ⟨_, e1, _⟩ := h1; exact Heap.lt_size e1
        · rw [q]; obtain ⟨_, e2, _⟩ := h2; exact Heap.lt_size e2
      rw [upd_ne (Nat.ne_of_lt hlt)]
      exact (hf c hcm).1
  done := by
    intro X hP hw hK hc i pins s σ H E I hf st hg
    subst hP hw hK
    obtain ⟨hz, hTI, ⟨x0, y0, hTO⟩, h1, h2⟩ := st
    obtain ⟨xs, ys, hqx, hqy, hend1, hend2, hend⟩ := hg
    obtain ⟨its, rv, p, _⟩ := I.tuple hqx
    obtain ⟨its2, rv2, p2, _⟩ := I.list hqy
    have hh : X.A.in1.handled = Option.none := I.ok.hd hc
    have l1 := rv.length
    have l2 := rv2.length
    exact wpAny_pyNext_zipD2_end (i := i) (sep_of D) (Draws.tuple hh i1 a D.l1i1 its.toArray) (Draws.list hh i2 b D.l2i2 its2.toArray) hz hTI hTO ⟨h1, p⟩ ⟨h2, p2.isList⟩ (by simp; omega) (by simp; omega) (by
      rcases hend with q | q
      · exact .inl (by simp; omega)
      · exact .inr (by simp; omega)) fun h' tk hk => ⟨rfl, I.turnedL (t' := tk) (ch := [z, TI, TO, i1, i2]) (fun c o hb q =>
      hk c o (fun q' => hb (by simp [q'])) (fun q' => hb (by simp [q'])) (fun q' => hb (by simp [q'])) (fun q' => hb (by simp [q'])) q) hf⟩
  self := fun A i s Q E st h => wpAny_pyIter_zip st.1 h
def iZipM (K : PySem.W.Frag) (ta : TA) : TI := fun σ H R => ta σ H fun vs H1 => ∃ a b xs ys, vs = [.ref a, .ref b] ∧ SqT K H1 a xs ∧ SqL K H1 b ys ∧ R (ItzM K a b) H1
theorem pi_zipM {X : Cx} {e e2 : Expr} {ta : TA} {p pos tpos : Pos} {elts : List Expr} {kk : Nat} (hg : Gl X "zip") (hm : X.mg "zip" = Option.none) (ha : PA X [e, e2] ta)
    (hs : starEach [e, e2] X.env = (false, eval e X.env) :: starEach [e2] X.env := by rfl) (hpl : (backTo pos (starEach [e2] X.env)).any (·.1) = false := by rfl) :
    PI X (.Tuple elts kk tpos) (.Call (.Name "zip" p) [e, e2] [] pos) (iZipM X.K ta) := by
  refine ⟨fun pins s σ H R I h => ?_⟩
  refine Call_ (ld_blt I hg hm PyProof.Rows.boot_zip (PyProof.Rows.callWith_type1 (thn (ha.run pos pins s σ H _ I h) fun us s1 ⟨vs, H1, I1, r1, q1⟩ => ?_) hs hpl))
  obtain ⟨a, b, xs, ys, ex, hqx, hqy, q⟩ := q1
  subst ex
  cases r1 with
  | cons r rr =>
    cases rr with
    | cons r' rr =>
      cases rr
      cases r
      cases r'
      obtain ⟨its, rv, p1, _⟩ := I1.tuple hqx
      obtain ⟨its2, rv2, p2, _⟩ := I1.list hqy
      obtain ⟨oa, ho1, _⟩ := id p1
      have la : a < s1.heap.objs.size := Heap.lt_size ho1
      have lb : b < s1.heap.objs.size := p2.lt
      refine zip_begins2 (begins_tuple a its.toArray) (begins_list b its2.toArray) p1 p2.isList fun h' hz hTI hTO h1 h2 hsz hk => wpAny_pyIter_zip hz ?_
      have I2 : Inv X pins σ H1 { s1 with heap := h' } := I1.kept (t' := s1.toks) hk
      refine ⟨s1.heap.objs.size + 4, [s1.heap.objs.size + 4, s1.heap.objs.size + 2, s1.heap.objs.size + 3, s1.heap.objs.size, s1.heap.objs.size + 1], _, _, H1, rfl, I2, turn_zipM (PySem.W.ktu_apart s1.heap.objs.size a b la lb), ⟨hz, hTI, ⟨_, _, hTO⟩, ⟨_, h1, rfl, rfl⟩, ⟨_, h2, rfl, rfl⟩⟩, fun c hcm => ?_, q⟩
      have e' : c = s1.heap.objs.size + 4 ∨ c = s1.heap.objs.size + 2 ∨ c = s1.heap.objs.size + 3 ∨ c = s1.heap.objs.size ∨ c = s1.heap.objs.size + 1 := by simpa using hcm
      have hle : s1.heap.objs.size ≤ c := by
        rcases e' with z | z | z | z | z
        · rw [z]; exact Nat.le_add_right _ _
        · rw [z]; exact Nat.le_add_right _ _
        · rw [z]; exact Nat.le_add_right _ _
        · rw [z]; exact Nat.le_refl _
        · rw [z]; exact Nat.le_add_right _ _
      exact I1.fpOk hle (I1.hok.fresh hle)
theorem walk_zipM {K : PySem.W.Frag} {a b : Addr} {xs ys : List V} {n : Nat} (h1 : xs.length = n ∨ ys.length = n) (h2 : n ≤ xs.length) (h3 : n ≤ ys.length) : Walk (ItzM K a b) n (fun H => SqT K H a xs ∧ SqL K H b ys) (YPair (fun i => xs[i]?) (fun i => ys[i]?)) := by
  refine ⟨fun i _ hi q => ?_, fun _ q => ⟨xs, ys, q.1, q.2, h2, h3, by omega⟩, fun i H v H' _ q y => ?_⟩
  · have h1 : i < xs.length := by omega
    have h2 : i < ys.length := by omega
    exact ⟨xs, ys, xs[i], ys[i], q.1, q.2, by simp [h1], by simp [h2]⟩
  · obtain ⟨T, x, z, h1, h2, h3, h4, h5⟩ := y
    exact ⟨T, x, z, h1, h2, h3, h4 xs q.1, h5 ys q.2⟩
end Cm

set_option linter.all false
/-! tuple(zip(a, b)) of two tuples of one length -/
namespace Cm
open PySem L2 PySem.Spec PyProof.Rows
open RZ (zipT_next_item zipT_next_end pyNext_zipT_item nextOf_tuple_item nextOf_tuple_end call_zipT)
theorem nolen_zip : typeLookup (.type "zip") "__len__" = pure none := by rw [typeLookup_type, builtinLookup_eq_fast]; kernel_rfl
theorem nohint_zip : typeLookup (.type "zip") "__length_hint__" = pure none := by rw [typeLookup_type, builtinLookup_eq_fast]; kernel_rfl
section
variable {prog : Program} {w : World} {A : Around} {E : Value → Shared → Prop} {s : Shared}
theorem zh_item {z TI TO T i1 i2 l1 l2 : Addr} {f : Bool} {oT : Obj} {k1 k2 : Nat} {xs ys : Array Value} {x y : Value} {Q : Value → Shared → Prop} (D : ZipApart z TI TO i1 i2 l1 l2)
    (hz : IsZipHeld s.heap z TI TO T f) (hT : s.heap.get? T = some oT) (hTI : IsPair s.heap TI (.ref i1) (.ref i2))
    (h1 : s.heap.IsTupleIter i1 l1 k1) (h2 : s.heap.IsTupleIter i2 l2 k2) (hl1 : s.heap.IsTuple l1 xs) (hl2 : s.heap.IsTuple l2 ys) (hx : xs[k1]? = some x) (hy : ys[k2]? = some y)
    (hQ : ∀ h', IsZipHeld h' z TI TO T true → h'.IsTupleIter i1 l1 (k1 + 1) → h'.IsTupleIter i2 l2 (k2 + 1) → IsPair h' s.heap.objs.size x y → h'.objs.size = s.heap.objs.size + 1 →
      (∀ c o, c ≠ z → c ≠ i1 → c ≠ i2 → s.heap.get? c = some o → h'.get? c = some o) → Q (.ref s.heap.objs.size) { s with heap := h' }) :
    wpAny (model prog w) A (Builtin.«zip.__next__» ⟨[.ref z], []⟩) (fun fin s' => ∃ v, fin = .done (.ret v) ∧ Q v s') E s := by
  show wpAny _ _ (field (.ref z) 2 >>= _) _ _ _
  refine wpAny_bind (wpAny_field hz rfl (x := .bool false) rfl ?_)
  show wpAny _ _ (field (.ref z) 3 >>= _) _ _ _
  refine wpAny_bind (wpAny_field hz rfl (x := .ref TI) rfl ?_)
  refine wpAny_bind (wpAny_seqItems hTI rfl ?_)
  show wpAny _ _ (Builtin.SmallTypes.ownedTupleIsFree (.ref z) >>= _) _ _ _
  refine wpAny_bind (wpAny_tupleHeld_zip hz hT fun h₁ hz₁ hs₁ => ?_)
  simp only [Bool.false_eq_true, if_false]
  refine wpAny_bind ?_
  rw [← Array.forIn_toList]
  simp only [List.forIn_cons, List.forIn_nil]
  refine wpAny_bind (wpAny_bind (wpAny_holding ?_))
  show wpAny _ _ (Builtin.SmallTypes.nextOf (.ref i1) >>= _) _ _ _
  refine wpAny_bind (nextOf_tuple_item (s := { s with heap := h₁ }) (h1.extBut hs₁.extBut D.i1z) (hl1.extBut hs₁.extBut D.l1z) hx fun h₂ h1₂ hs₂ => wpAny_pure ?_)
  refine wpAny_pure ?_
  refine wpAny_bind (wpAny_bind (wpAny_holding ?_))
  show wpAny _ _ (Builtin.SmallTypes.nextOf (.ref i2) >>= _) _ _ _
  refine wpAny_bind (nextOf_tuple_item (s := { s with heap := h₂ }) ((h2.extBut hs₁.extBut D.i2z).extBut hs₂.extBut D.i12.symm) ((hl2.extBut hs₁.extBut D.l2z).extBut hs₂.extBut D.l2i1) hy fun h₃ h2₃ hs₃ => wpAny_pure ?_)
  refine wpAny_pure (wpAny_pure ?_)
  show wpAny _ _ (newTuple [x, y] >>= _) _ _ _
  refine wpAny_bind (wpAny_newTuple ?_)
  have hsz : h₃.objs.size = s.heap.objs.size := by rw [hs₃.1, hs₂.1, hs₁.1]
  have hz₃ : IsZipHeld h₃ z TI TO T true := hs₃.extBut _ _ D.i2z.symm (hs₂.extBut _ _ D.i1z.symm hz₁)
  have hk : ∀ c o, c ≠ z → c ≠ i1 → c ≠ i2 → s.heap.get? c = some o → h₃.get? c = some o := fun c o c1 c2 c3 e => hs₃.extBut _ _ c3 (hs₂.extBut _ _ c2 (hs₁.extBut _ _ c1 e))
  have h1₃ : h₃.IsTupleIter i1 l1 (k1 + 1) := h1₂.extBut hs₃.extBut D.i12
  refine wpAny_pure ⟨_, rfl, ?_⟩
  show Q (.ref h₃.objs.size) _
  have hp : IsPair (h₃.push { cls := .type "tuple", data := .seq #[x, y] }) h₃.objs.size x y := Heap.get?_push_size _ rfl
  have hz4 : (h₃.push { cls := .type "tuple", data := .seq #[x, y] }).objs.size = h₃.objs.size + 1 := Heap.size_push ..
  rw [hsz] at hp hz4 ⊢
  exact hQ _ (Heap.get?_push_of_some _ hz₃) (h1₃.at fun o e => Heap.get?_push_of_some _ e) (h2₃.at fun o e => Heap.get?_push_of_some _ e) hp hz4 fun c o c1 c2 c3 e => Heap.get?_push_of_some _ (hk c o c1 c2 c3 e)
theorem zh_end {z TI TO T i1 i2 l1 l2 : Addr} {f : Bool} {oT : Obj} {k1 : Nat} {xs : Array Value} {Q : Fin → Shared → Prop} (hh : A.handled = none) (D : ZipApart z TI TO i1 i2 l1 l2)
    (hz : IsZipHeld s.heap z TI TO T f) (hT : s.heap.get? T = some oT) (hTI : IsPair s.heap TI (.ref i1) (.ref i2))
    (h1 : s.heap.IsTupleIter i1 l1 k1) (hl1 : s.heap.IsTuple l1 xs) (hx : xs[k1]? = none)
    (hE : ∀ h' e, (∀ c o, c ≠ z → c ≠ i1 → c ≠ i2 → s.heap.get? c = some o → h'.get? c = some o) → (∃ o, h'.get? e = some o ∧ o.cls = .type "StopIteration") → E (.ref e) { s with heap := h' }) :
    wpAny (model prog w) A (Builtin.«zip.__next__» ⟨[.ref z], []⟩) Q E s := by
  show wpAny _ _ (field (.ref z) 2 >>= _) _ _ _
  refine wpAny_bind (wpAny_field hz rfl (x := .bool false) rfl ?_)
  show wpAny _ _ (field (.ref z) 3 >>= _) _ _ _
  refine wpAny_bind (wpAny_field hz rfl (x := .ref TI) rfl ?_)
  refine wpAny_bind (wpAny_seqItems hTI rfl ?_)
  show wpAny _ _ (Builtin.SmallTypes.ownedTupleIsFree (.ref z) >>= _) _ _ _
  refine wpAny_bind (wpAny_tupleHeld_zip hz hT fun h₁ hz₁ hs₁ => ?_)
  simp only [Bool.false_eq_true, if_false]
  refine wpAny_bind ?_
  rw [← Array.forIn_toList]
  simp only [List.forIn_cons, List.forIn_nil]
  refine wpAny_bind (wpAny_bind (wpAny_holding ?_))
  show wpAny _ _ (Builtin.SmallTypes.nextOf (.ref i1) >>= _) _ _ _
  refine wpAny_bind (nextOf_tuple_end (s := { s with heap := h₁ }) hh (h1.extBut hs₁.extBut D.i1z) (hl1.extBut hs₁.extBut D.l1z) hx fun h₂ e hs₂ he => ?_)
  exact hE h₂ e (fun c o c1 c2 _ x => hs₂ _ _ c2 (hs₁.extBut _ _ c1 x)) he
theorem zh_next {z TI TO T i1 i2 l1 l2 : Addr} {f : Bool} {oT : Obj} {k1 k2 : Nat} {xs ys : Array Value} {x y : Value} {Q : Option Value → Shared → Prop} (D : ZipApart z TI TO i1 i2 l1 l2)
    (hz : IsZipHeld s.heap z TI TO T f) (hT : s.heap.get? T = some oT) (hTI : IsPair s.heap TI (.ref i1) (.ref i2))
    (h1 : s.heap.IsTupleIter i1 l1 k1) (h2 : s.heap.IsTupleIter i2 l2 k2) (hl1 : s.heap.IsTuple l1 xs) (hl2 : s.heap.IsTuple l2 ys) (hx : xs[k1]? = some x) (hy : ys[k2]? = some y)
    (hQ : ∀ h', IsZipHeld h' z TI TO T true → h'.IsTupleIter i1 l1 (k1 + 1) → h'.IsTupleIter i2 l2 (k2 + 1) → IsPair h' s.heap.objs.size x y → h'.objs.size = s.heap.objs.size + 1 →
      (∀ c o, c ≠ z → c ≠ i1 → c ≠ i2 → s.heap.get? c = some o → h'.get? c = some o) → Q (some (.ref s.heap.objs.size)) { s with heap := h' }) :
    wpAny (model prog w) A (pyNext (.ref z)) Q E s := by
  have hTy : s.TypeIs (.ref z) "zip" := ⟨_, hz, rfl⟩
  unfold pyNext
  exact wpAny_bind (wpAny_attempt (wpAny_callSpecial?_slot (name := Str.ofString "__next__") hTy F.slot_zip_next
    (wpAny_call_entry F.slot_zip_next hTy F.entry_zip_next
      (zh_item D hz hT hTI h1 h2 hl1 hl2 hx hy fun h' a1 a3 a4 a5 a6 a7 => wpAny_pure (hQ h' a1 a3 a4 a5 a6 a7)) (F.args_zip_next_1 _))))
theorem zh_done {z TI TO T i1 i2 l1 l2 : Addr} {f : Bool} {oT : Obj} {k1 : Nat} {xs : Array Value} {Q : Option Value → Shared → Prop} (hh : A.handled = none) (D : ZipApart z TI TO i1 i2 l1 l2)
    (hz : IsZipHeld s.heap z TI TO T f) (hT : s.heap.get? T = some oT) (hTI : IsPair s.heap TI (.ref i1) (.ref i2))
    (h1 : s.heap.IsTupleIter i1 l1 k1) (hl1 : s.heap.IsTuple l1 xs) (hx : xs[k1]? = none)
    (hQ : ∀ h', (∀ c o, c ≠ z → c ≠ i1 → c ≠ i2 → s.heap.get? c = some o → h'.get? c = some o) → Q none { s with heap := h' }) : wpAny (model prog w) A (pyNext (.ref z)) Q E s := by
  have hTy : s.TypeIs (.ref z) "zip" := ⟨_, hz, rfl⟩
  unfold pyNext
  refine wpAny_bind (wpAny_attempt (wpAny_callSpecial?_slot (name := Str.ofString "__next__") hTy F.slot_zip_next
    (wpAny_call_entry F.slot_zip_next hTy F.entry_zip_next (zh_end hh D hz hT hTI h1 hl1 hx fun h' e hk he => ?_) (F.args_zip_next_1 _))))
  obtain ⟨o, ho, hc⟩ := he
  refine wpAny_bind (wpAny_isInstance (T := "StopIteration") (b := true) ⟨o, ho, hc⟩ isSubtype_stop ?_)
  exact wpAny_pure (hQ _ hk)
end
/-- the pairs made so far -/
def Pairs (H : Hp) (xs ys us : List V) (i : Nat) : Prop := us.length = i ∧ ∀ j, j < i → ∃ T x y, us[j]? = some (.ref T) ∧ xs[j]? = some x ∧ ys[j]? = some y ∧ H T = some (.tup [x, y])
theorem Pairs.snoc {H : Hp} {xs ys us : List V} {i : Nat} {T : Addr} {x y : V} (p : Pairs H xs ys us i) (hT : H T = none) (ex : xs[i]? = some x) (ey : ys[i]? = some y) : Pairs (upd H T (.tup [x, y])) xs ys (us ++ [.ref T]) (i + 1) := by
  refine ⟨by rw [List.length_append, p.1]; rfl, fun j hj => ?_⟩
  by_cases q : j < i
  · obtain ⟨T', x', y', e1, e2, e3, e4⟩ := p.2 j q
    refine ⟨T', x', y', ?_, e2, e3, ?_⟩
    · rw [List.getElem?_append_left (by rw [p.1]; exact q)]
      exact e1
    · rw [upd_ne (ne_of_none e4 hT)]
      exact e4
  · have : j = i := by omega
    subst this
    refine ⟨T, x, y, ?_, ex, ey, upd_same⟩
    rw [List.getElem?_append_right (by rw [p.1]; exact Nat.le_refl _), p.1, Nat.sub_self]
    rfl
section
variable {X : Cx} {pins : List (Addr × Obj)} {σ : L2.St} {A : Around} {z TI TO i1 i2 a b S : Addr} {xs ys : List V}
theorem fp_upd {H : Hp} {T c : Addr} {o : HO} (f : FpOk X pins H c) (n : c ≠ T) : FpOk X pins (upd H T o) c := ⟨by rw [upd_ne n]; exact f.1, f.2⟩
theorem zip_loop {R : Result → Shared → Prop} {T0 : Addr} {res : Value} (hh : A.handled = none) (D : ZipApart z TI TO i1 i2 a b) (hl : xs.length = ys.length) (hSz : S ≠ z) (hS1 : S ≠ i1) (hS2 : S ≠ i2) (hSI : S ≠ TI) (hS0 : S ≠ T0) (hTz : T0 ≠ z) (hT1 : T0 ≠ i1) (hT2 : T0 ≠ i2) {H0 : Hp} (hx : SqT X.K H0 a xs) (hy : SqT X.K H0 b ys) :
    ∀ (k i : Nat) (s : Shared) (acc : Array Value) (c : Nat) (H : Hp) (us : List V), xs.length - i = k → i ≤ xs.length → Inv X pins σ H s → Same H0 H → (∀ c ∈ [z, i1, i2, S], FpOk X pins H c) →
      (∃ f, IsZipHeld s.heap z TI TO T0 f) → (∃ oT, s.heap.get? T0 = some oT) → IsPair s.heap TI (.ref i1) (.ref i2) → s.heap.IsTupleIter i1 a i → s.heap.IsTupleIter i2 b i →
      s.heap.get? S = some { cls := .type "list", dict := none, data := .seq acc c, slots := #[] } → Vals us acc.toList → Pairs H xs ys us i →
      (∀ s' acc' c' H' us', Inv X pins σ H' s' → Same H0 H' → s'.heap.get? S = some { cls := .type "list", dict := none, data := .seq acc' c', slots := #[] } → Vals us' acc'.toList → Pairs H' xs ys us' xs.length → R (.ok (.ret res)) s') →
      codeAny (model X.prog X.w) A (.builtin "list.extend.loop" ⟨[.ref S, .ref z, res], []⟩) R s := by
  intro k
  induction k with
  | zero =>
    intro i s acc c H us hk hi I sm fp hz hT hTI h1 h2 hS hv hp hR
    have hin : i = xs.length := by omega
    obtain ⟨f, hz⟩ := hz
    obtain ⟨oT, hT⟩ := hT
    obtain ⟨its, rv, p, hsz⟩ := I.tuple (sqt_same sm hx)
    refine codeAny_builtin F.entry_extend_loop ?_
    rw [Around.under_plainId F.plain_extend_loop _]
    show wpAny _ A.in1 (pyNext (.ref z) >>= _) _ _ s
    refine wpAny_bind (zh_done (A := A.in1) hh D hz hT hTI h1 p (by have := rv.length; simp; omega) fun h' hk => ?_)
    refine wpAny_pure (hR { s with heap := h' } acc c H us (I.turnedL (t' := s.toks) (ch := [z, i1, i2]) (fun c' o hb q => hk c' o (fun q' => hb (by simp [q'])) (fun q' => hb (by simp [q'])) (fun q' => hb (by simp [q'])) q) fun c' hc' => fp c' (by rcases (by simpa using hc' : c' = z ∨ c' = i1 ∨ c' = i2) with q | q | q <;> simp [q])) sm (hk S _ hSz hS1 hS2 hS) hv ?_)
    rw [← hin]
    exact hp
  | succ k ih =>
    intro i s acc c H us hk hi I sm fp hz hT hTI h1 h2 hS hv hp hR
    have hlt : i < xs.length := by omega
    obtain ⟨f, hz⟩ := hz
    obtain ⟨oT, hT⟩ := hT
    have ex := List.getElem?_eq_getElem hlt
    have ey := List.getElem?_eq_getElem (by omega : i < ys.length)
    obtain ⟨its, rv, p, hsz⟩ := I.tuple (sqt_same sm hx)
    obtain ⟨its2, rv2, p2, hsz2⟩ := I.tuple (sqt_same sm hy)
    obtain ⟨u, hu, ru⟩ := rv.get ex
    obtain ⟨u2, hu2, ru2⟩ := rv2.get ey
    have hzl : z < s.heap.objs.size := Heap.lt_size hz
    have h1l : i1 < s.heap.objs.size := by obtain ⟨_, e, _⟩ := h1; exact Heap.lt_size e
    have h2l : i2 < s.heap.objs.size := by obtain ⟨_, e, _⟩ := h2; exact Heap.lt_size e
    have hSl : S < s.heap.objs.size := Heap.lt_size hS
    refine codeAny_builtin F.entry_extend_loop ?_
    rw [Around.under_plainId F.plain_extend_loop _]
    show wpAny _ A.in1 (pyNext (.ref z) >>= _) _ _ s
    refine wpAny_bind (zh_next D hz hT hTI h1 h2 p p2 (x := u) (y := u2) (by simpa using hu) (by simpa using hu2) fun h' hz' h1' h2' hT' hsz' hk' => ?_)
    have hS' : h'.get? S = some { cls := .type "list", dict := none, data := .seq acc c, slots := #[] } := hk' S _ hSz hS1 hS2 hS
    have new : ObjOk X.prog X.w (upd H s.heap.objs.size (.tup [xs[i], ys[i]])) h' s.heap.objs.size (.tup [xs[i], ys[i]]) :=
      ⟨by show 2 ≤ sizeLine; decide, [u, u2], .cons ru (.cons ru2 .nil), ⟨_, hT', rfl, _, rfl⟩⟩
    have I1 : Inv X pins σ (upd H s.heap.objs.size (.tup [xs[i], ys[i]])) { s with heap := h' } :=
      I.turnedNew (t' := s.toks) (ch := [z, i1, i2]) (fun c o hb q => hk' c o (fun q' => hb (by simp [q'])) (fun q' => hb (by simp [q'])) (fun q' => hb (by simp [q'])) q) (fun c' hc' => fp c' (by rcases (by simpa using hc' : c' = z ∨ c' = i1 ∨ c' = i2) with q | q | q <;> simp [q])) (Nat.le_refl _) new
    have fresh : H s.heap.objs.size = none := I.hok.fresh (Nat.le_refl _)
    have fp1 : ∀ c ∈ [z, i1, i2, S], FpOk X pins (upd H s.heap.objs.size (.tup [xs[i], ys[i]])) c := fun c hc => fp_upd (fp c hc) (by
      have : c = z ∨ c = i1 ∨ c = i2 ∨ c = S := by simpa using hc
      rcases this with q | q | q | q <;> subst q <;> exact Nat.ne_of_lt (by assumption))
    show wpAny _ A.in1 (updateSeq S (·.push (.ref s.heap.objs.size)) >>= _) _ _ _
    refine wpAny_bind ?_
    have hal : acc.size = i := by
      have := hv.length
      rw [hp.1, Array.length_toList] at this
      exact this.symm
    have oth : ∀ c' o, c' ≠ S → h'.get? c' = some o → (h'.update S (Obj.mapSeq (·.push (.ref s.heap.objs.size)))).get? c' = some o := fun c' o hb e => (Heap.get?_update_other _ _ (Ne.symm hb)).trans e
    have I2 := I1.turnedL (h' := h'.update S (Obj.mapSeq (·.push (.ref s.heap.objs.size)))) (t' := s.toks) (ch := [S]) (fun c' o hb q => oth c' o (fun q' => hb (by simp [q'])) q) (fun c' hc' => fp1 c' (by simp [(by simpa using hc' : c' = S)]))
    refine wpAny_updateSeq hS' rfl (wpAny_pure ⟨plainId_quiet F.plain_extend_loop _, ih (i + 1) _ (acc.push (.ref s.heap.objs.size)) _ _ (us ++ [.ref s.heap.objs.size]) (by omega) hlt I2 (sm.trans (same_new fresh)) fp1 ⟨true, oth _ _ hSz.symm hz'⟩ ⟨oT, oth _ _ hS0.symm (hk' _ _ hTz hT1 hT2 hT)⟩ (oth _ _ hSI.symm (hk' _ _ D.TIz D.TIi1 D.TIi2 hTI))
        (h1'.at fun o q => oth _ o hS1.symm q) (h2'.at fun o q => oth _ o hS2.symm q) (Heap.get?_update_self _ hS' rfl) ?_ (hp.snoc fresh ex ey) hR⟩) (by rw [hal]; omega) (by show (acc.push _).size ≤ sizeLine + 1; rw [Array.size_push, hal]; omega)
    rw [Array.toList_push]
    exact hv.append (.cons rfl .nil)
end
end Cm

set_option linter.all false
namespace Cm
open PySem L2 PySem.Spec PyProof.Rows
open RZ (zipT_next_item zipT_next_end pyNext_zipT_item nextOf_tuple_item nextOf_tuple_end call_zipT)
section
variable {X : Cx} {pins : List (Addr × Obj)} {σ : L2.St} {A : Around} {E : Value → Shared → Prop} {z TI TO i1 i2 a b : Addr} {xs ys : List V} {s : Shared} {H : Hp}
theorem collect_zip {Q : List Value → Shared → Prop} (hh : A.handled = none) (D : ZipApart z TI TO i1 i2 a b) (hl : xs.length = ys.length) (h0 : 0 < xs.length) (I : Inv X pins σ H s) (hx : SqT X.K H a xs) (hy : SqT X.K H b ys) (fp : ∀ c ∈ [z, TO, i1, i2], FpOk X pins H c)
    (hz : IsZip s.heap z TI TO .none) (hTI : IsPair s.heap TI (.ref i1) (.ref i2)) (hTO : ∃ x y, IsPair s.heap TO x y) (h1 : s.heap.IsTupleIter i1 a 0) (h2 : s.heap.IsTupleIter i2 b 0)
    (hQ : ∀ s' H' us l, Inv X pins σ H' s' → Same H H' → Vals us l → Pairs H' xs ys us xs.length → Q l s') : wpAny (model X.prog X.w) A (collect (.ref z)) Q E s := by
  obtain ⟨x0, y0, hTO⟩ := hTO
  have hzl : z < s.heap.objs.size := Heap.lt_size hz
  have hTIl : TI < s.heap.objs.size := Heap.lt_size hTI
  have hTOl : TO < s.heap.objs.size := Heap.lt_size hTO
  have h1l : i1 < s.heap.objs.size := by obtain ⟨_, e, _⟩ := h1; exact Heap.lt_size e
  have h2l : i2 < s.heap.objs.size := by obtain ⟨_, e, _⟩ := h2; exact Heap.lt_size e
  have fpS : FpOk X pins H s.heap.objs.size := I.fpOk (Nat.le_refl _) (I.hok.fresh (Nat.le_refl _))
  generalize eS : s.heap.objs.size = S at *
  have nz : S ≠ z := Nat.ne_of_gt hzl
  have nTI : S ≠ TI := Nat.ne_of_gt hTIl
  have nTO : S ≠ TO := Nat.ne_of_gt hTOl
  have n1 : S ≠ i1 := Nat.ne_of_gt h1l
  have n2 : S ≠ i2 := Nat.ne_of_gt h2l
  unfold collect
  refine wpAny_bind (wpAny_runValue (codeAny_builtin F.entry_proto_collect ?_))
  rw [Around.under_plainId F.plain_proto_collect _]
  show wpAny _ A.in1 (newList [] >>= fun l => again (.builtin "list.__iadd__" ⟨[l, .ref z], []⟩)) _ _ s
  refine wpAny_bind (wpAny_newObj_type ?_)
  rw [eS]
  refine wpAny_pure ⟨plainId_quiet F.plain_list_iadd _, codeAny_builtin F.entry_list_iadd ?_⟩
  rw [Around.under_plainId F.plain_list_iadd _]
  have up : ∀ c o, s.heap.get? c = some o → (s.heap.push { cls := .type "list", data := .seq ([] : List Value).toArray }).get? c = some o := fun c o e => Heap.get?_push_of_some _ e
  have hS₁ : (s.heap.push { cls := .type "list", data := .seq ([] : List Value).toArray }).get? S = some { cls := .type "list", data := .seq ([] : List Value).toArray } := by rw [← eS]; exact Heap.get?_push_size _ rfl
  have I1 : Inv X pins σ H { s with heap := s.heap.push { cls := .type "list", data := .seq ([] : List Value).toArray } } := I.kept (t' := s.toks) up
  have hTy : ({ s with heap := s.heap.push { cls := .type "list", data := .seq ([] : List Value).toArray } } : Shared).TypeIs (.ref z) "zip" := ⟨_, up _ _ hz, rfl⟩
  show wpAny _ A.in1 (Builtin.List.listExtendWith (.ref S) (.ref z) (.ref S)) _ _ _
  unfold Builtin.List.listExtendWith
  refine wpAny_bind (wpAny_typeOf hTy ?_)
  have e1 : Builtin.List.listSameRef (.ref S) (.ref z) = false := by simp [Builtin.List.listSameRef, nz]
  have e2 : (Value.type "zip" == Value.type "list") = false := by decide
  have e3 : (Value.type "zip" == Value.type "tuple") = false := by decide
  simp only [e1, e2, e3, Bool.or_false, Bool.false_eq_true, if_false]
  refine wpAny_bind (wpAny_pyIter_zip (up _ _ hz) ?_)
  refine wpAny_bind (wpAny_holding ?_)
  unfold Builtin.List.listLengthHint
  refine wpAny_bind (wpAny_specialOf hTy nolen_zip ?_)
  show wpAny _ A.in1 (specialOf (Value.ref z) (Str.ofString "__length_hint__") >>= _) _ _ _
  refine wpAny_bind (wpAny_specialOf hTy nohint_zip ?_)
  refine wpAny_pure ?_
  show wpAny _ A.in1 (rule "list.extend.makes-room" >>= fun _ => Builtin.List.listTouch (.ref S) >>= fun _ =>
    again (.builtin "list.extend.loop" ⟨[.ref S, .ref z, .ref S], []⟩)) _ _ _
  refine wpAny_bind (wpAny_rule ?_)
  refine wpAny_bind ?_
  show wpAny _ A.in1 (updateSeq S (·.push .none) >>= fun _ => updateSeq S (·.pop)) _ _ _
  refine wpAny_bind (wpAny_updateSeq hS₁ rfl ?_)
  have hS₂ := Heap.get?_update_self (Obj.mapSeq (·.push Value.none)) hS₁ rfl
  refine wpAny_updateSeq hS₂ rfl ?_
  have hS₃ := Heap.get?_update_self (Obj.mapSeq (·.pop)) hS₂ rfl
  have oth : ∀ c o, c ≠ S → s.heap.get? c = some o →
      (((s.heap.push { cls := .type "list", data := .seq ([] : List Value).toArray }).update S (Obj.mapSeq (·.push Value.none))).update S (Obj.mapSeq (·.pop))).get? c = some o :=
    fun c o hb e => (Heap.get?_update_other _ _ (Ne.symm hb)).trans ((Heap.get?_update_other _ _ (Ne.symm hb)).trans (up _ _ e))
  generalize eh3 : ((s.heap.push { cls := .type "list", data := .seq ([] : List Value).toArray }).update S (Obj.mapSeq (·.push Value.none))).update S (Obj.mapSeq (·.pop)) = h3 at *
  have I2 : Inv X pins σ H { s with heap := h3 } := by
    refine I.turnedL (t' := s.toks) (ch := [S]) (fun c o hb e => oth c o (fun q => hb (by simp [q])) e) fun c hc => ?_
    have : c = S := by simpa using hc
    rw [this]; exact fpS
  have hz3 := oth _ _ nz.symm hz
  have hTI3 := oth _ _ nTI.symm hTI
  have hTO3 := oth _ _ nTO.symm hTO
  have h13 : h3.IsTupleIter i1 a 0 := h1.at fun o q => oth _ o n1.symm q
  have h23 : h3.IsTupleIter i2 b 0 := h2.at fun o q => oth _ o n2.symm q
  have hS3l : S < h3.objs.size := Heap.lt_size hS₃
  have fp3 : ∀ c ∈ [z, TO, i1, i2, S], FpOk X pins H c := fun c hc => by
    have : c = z ∨ c = TO ∨ c = i1 ∨ c = i2 ∨ c = S := by simpa using hc
    rcases this with q | q | q | q | q
    · exact fp c (by simp [q])
    · exact fp c (by simp [q])
    · exact fp c (by simp [q])
    · exact fp c (by simp [q])
    · rw [q]; exact fpS
  have ex := List.getElem?_eq_getElem h0
  have ey := List.getElem?_eq_getElem (by omega : 0 < ys.length)
  obtain ⟨its, rv, p, hsz⟩ := I2.tuple hx
  obtain ⟨its2, rv2, p2, hsz2⟩ := I2.tuple hy
  obtain ⟨u, hu, ru⟩ := rv.get ex
  obtain ⟨u2, hu2, ru2⟩ := rv2.get ey
  refine wpAny_pure ⟨plainId_quiet F.plain_extend_loop _, codeAny_builtin F.entry_extend_loop ?_⟩
  rw [Around.under_plainId F.plain_extend_loop _]
  show wpAny _ A.in1 (pyNext (.ref z) >>= _) _ _ { s with heap := h3 }
  refine wpAny_bind (pyNext_zipT_item (s := { s with heap := h3 }) D hz3 hTI3 hTO3 h13 h23 p p2 (x := u) (y := u2) (by simpa using hu) (by simpa using hu2) fun h' hz' hTO' h1' h2' hT' hsz' hk' => ?_)
  have nT : ∀ c, c ∈ [z, TI, TO, i1, i2, S] → c ≠ h3.objs.size := fun c hc => by
    have : c = z ∨ c = TI ∨ c = TO ∨ c = i1 ∨ c = i2 ∨ c = S := by simpa using hc
    rcases this with q | q | q | q | q | q <;> subst q
    · exact Nat.ne_of_lt (Heap.lt_size hz3)
    · exact Nat.ne_of_lt (Heap.lt_size hTI3)
    · exact Nat.ne_of_lt (Heap.lt_size hTO3)
    · obtain ⟨_, e, _⟩ := h13; exact Nat.ne_of_lt (Heap.lt_size e)
    · obtain ⟨_, e, _⟩ := h23; exact Nat.ne_of_lt (Heap.lt_size e)
    · exact Nat.ne_of_lt hS3l
  have new : ObjOk X.prog X.w (upd H h3.objs.size (.tup [xs[0], ys[0]])) h' h3.objs.size (.tup [xs[0], ys[0]]) :=
    ⟨by show 2 ≤ sizeLine; decide, [u, u2], .cons ru (.cons ru2 .nil), ⟨_, hT', rfl, _, rfl⟩⟩
  have fresh : H h3.objs.size = none := I2.hok.fresh (Nat.le_refl _)
  have I3 : Inv X pins σ (upd H h3.objs.size (.tup [xs[0], ys[0]])) { s with heap := h' } :=
    I2.turnedNew (t' := s.toks) (ch := [z, TO, i1, i2]) (fun c o hb q => hk' c o (fun q' => hb (by simp [q'])) (fun q' => hb (by simp [q'])) (fun q' => hb (by simp [q'])) (fun q' => hb (by simp [q'])) q) (fun c' hc' => fp c' hc') (Nat.le_refl _) new
  have fp1 : ∀ c ∈ [z, i1, i2, S], FpOk X pins (upd H h3.objs.size (.tup [xs[0], ys[0]])) c := fun c hc => by
    have : c = z ∨ c = i1 ∨ c = i2 ∨ c = S := by simpa using hc
    exact fp_upd (fp3 c (by rcases this with q | q | q | q <;> simp [q])) (nT c (by rcases this with q | q | q | q <;> simp [q]))
  have hS' := hk' S _ nz nTO n1 n2 hS₃
  show wpAny _ A.in1 (updateSeq S (·.push (.ref h3.objs.size)) >>= _) _ _ _
  refine wpAny_bind ?_
  have oth2 : ∀ c' o, c' ≠ S → h'.get? c' = some o → (h'.update S (Obj.mapSeq (·.push (.ref h3.objs.size)))).get? c' = some o := fun c' o hb e => (Heap.get?_update_other _ _ (Ne.symm hb)).trans e
  have I4 := I3.turnedL (h' := h'.update S (Obj.mapSeq (·.push (.ref h3.objs.size)))) (t' := s.toks) (ch := [S]) (fun c' o hb q => oth2 c' o (fun q' => hb (by simp [q'])) q) (fun c' hc' => fp1 c' (by simp [(by simpa using hc' : c' = S)]))
  have nT0 : S ≠ h3.objs.size := nT S (by simp)
  refine wpAny_updateSeq hS' rfl (wpAny_pure ⟨plainId_quiet F.plain_extend_loop _, zip_loop (X := X) (pins := pins) (σ := σ) (A := A) (T0 := h3.objs.size) (H0 := H) hh D hl nz n1 n2 nTI nT0 (nT z (by simp)).symm (nT i1 (by simp)).symm (nT i2 (by simp)).symm hx hy
    (xs.length - 1) 1 _ _ _ _ [.ref h3.objs.size] rfl h0 I4 (same_new fresh) fp1 ⟨false, oth2 _ _ nz.symm hz'⟩ ⟨_, oth2 _ _ nT0.symm hT'⟩ (oth2 _ _ nTI.symm (hk' _ _ D.TIz D.TITO D.TIi1 D.TIi2 hTI3)) (h1'.at fun o q => oth2 _ o n1.symm q) (h2'.at fun o q => oth2 _ o n2.symm q) (Heap.get?_update_self _ hS' rfl) (.cons rfl .nil) ?_ fun s' acc' c' H' us' J1 J2 J3 J4 J5 => ?_⟩)
  · have := Pairs.snoc (H := H) (xs := xs) (ys := ys) (us := []) (i := 0) ⟨rfl, fun j hj => absurd hj (Nat.not_lt_zero j)⟩ fresh ex ey
    exact this
  · show wpAny _ A (load S >>= _) _ _ s'
    refine wpAny_bind (wpAny_load J3 ?_)
    exact wpAny_pure (hQ s' H' us' acc'.toList J1 J2 J4 J5)
theorem code_tuple_zip {Q₁ : Value → Shared → Prop} (hh : A.handled = none) (D : ZipApart z TI TO i1 i2 a b) (hl : xs.length = ys.length) (h0 : 0 < xs.length) (I : Inv X pins σ H s) (hx : SqT X.K H a xs) (hy : SqT X.K H b ys) (fp : ∀ c ∈ [z, TO, i1, i2], FpOk X pins H c)
    (hz : IsZip s.heap z TI TO .none) (hTI : IsPair s.heap TI (.ref i1) (.ref i2)) (hTO : ∃ x y, IsPair s.heap TO x y) (h1 : s.heap.IsTupleIter i1 a 0) (h2 : s.heap.IsTupleIter i2 b 0)
    (h : ∀ s' H' us (l : List Value), Inv X pins σ H' s' → Same H H' → Vals us l → Pairs H' xs ys us xs.length → Q₁ (.ref s'.heap.objs.size) { s' with heap := s'.heap.push { cls := .type "tuple", data := .seq l.toArray } }) :
    codeAny (model X.prog X.w) A (.call (.builtin "tuple.__new__") ⟨[.type "tuple", .ref z], []⟩) (wants Q₁ E) s := by
  refine codeAny_of_tree ?_
  show wpAny _ A.in1 (do checkBuiltinCall "tuple.__new__" ⟨[.type "tuple", .ref z], []⟩; again (.builtin "tuple.__new__" ⟨[.type "tuple", .ref z], []⟩)) _ _ s
  refine wpAny_bind (wpAny_of_eq (F.newCall_tuple_1 _) (wpAny_pure ⟨plainId_quiet F.plain_tuple_new _, codeAny_builtin F.entry_tuple_new ?_⟩))
  rw [Around.under_plainId F.plain_tuple_new _]
  have hsub := sub_tuple_self
  have hinit := init_tuple_lookup
  have hmh := madeHere_tuple
  have hTI' : s.TypeIs (.ref z) "zip" := ⟨_, hz, rfl⟩
  have hh1 : A.in1.handled = none := hh
  have hn : xs.length ≤ sizeLine := by
    obtain ⟨_, _, _, q⟩ := I.tuple hx
    exact q
  wp_walk using wpAny_typeOf hTI', collect_zip (A := A.in1) hh1 D hl h0 I hx hy fp hz hTI hTO h1 h2
  intro s' H' us l J1 J2 J3 J4
  show wpAny _ _ (Builtin.Tuple.tupleExact l.toArray >>= fun v => ret v) _ _ _
  unfold Builtin.Tuple.tupleExact
  refine wpAny_bind (wpAny_newObj_type ?_ (by show l.toArray.size ≤ sizeLine; rw [List.size_toArray, ← J3.length, J4.1]; exact hn))
  exact wpAny_pure (h s' H' us l J1 J2 J3 J4)
theorem call_tuple_zip {Q : Value → Shared → Prop} (hh : A.handled = none) (D : ZipApart z TI TO i1 i2 a b) (hl : xs.length = ys.length) (h0 : 0 < xs.length) (I : Inv X pins σ H s) (hx : SqT X.K H a xs) (hy : SqT X.K H b ys) (fp : ∀ c ∈ [z, TO, i1, i2], FpOk X pins H c)
    (hz : IsZip s.heap z TI TO .none) (hTI : IsPair s.heap TI (.ref i1) (.ref i2)) (hTO : ∃ x y, IsPair s.heap TO x y) (h1 : s.heap.IsTupleIter i1 a 0) (h2 : s.heap.IsTupleIter i2 b 0)
    (hQ : ∀ s' H' us (l : List Value), Inv X pins σ H' s' → Same H H' → Vals us l → Pairs H' xs ys us xs.length → Q (.ref s'.heap.objs.size) { s' with heap := s'.heap.push { cls := .type "tuple", data := .seq l.toArray } }) :
    wpAny (model X.prog X.w) A (call (.type "tuple") [.ref z]) Q E s := by
  refine callType_codes (Q₁ := fun obj s₁ => s₁.TypeIs obj "tuple" ∧ Q obj s₁) F.called_tuple (F.typeCall_tuple_1 _) F.entry_object_init
    (code_tuple_zip (A := A.in1) hh D hl h0 I hx hy fp hz hTI hTO h1 h2 fun s' H' us l J1 J2 J3 J4 => ⟨⟨_, Heap.get?_push_size _ rfl, rfl⟩, hQ s' H' us l J1 J2 J3 J4⟩) fun obj s₁ h₁ => ?_
  exact ⟨h₁.1, F.args_object_init_2 obj _, object_init_meets F.called_tuple.init.lookup F.called_tuple.made (by decide) X.prog X.w A.in1 _ s₁ ⟨h₁.1, rfl, h₁.2⟩⟩
/-- tuple(zip(x, y)) of two tuples of one length, not empty: a new tuple of new pairs -/
def tTupZip (K : PySem.W.Frag) (ta : TA) : TE := fun σ H Q => ta σ H fun vs H1 => ∃ a b xs ys, vs = [.ref a, .ref b] ∧ SqT K H1 a xs ∧ SqT K H1 b ys ∧ xs.length = ys.length ∧ 0 < xs.length ∧
  ∀ H2 us q, Same H1 H2 → Pairs H2 xs ys us xs.length → H2 q = none → Q (.ref q) (upd H2 q (.tup us))
theorem pe_tupZip {e e2 : Expr} {ta : TA} {p p2 pos pos2 : Pos} (hc : X.calm = true) (hg : Gl X "tuple") (hm : X.mg "tuple" = none) (hg2 : Gl X "zip") (hm2 : X.mg "zip" = none) (ha : PA X [e, e2] ta)
    (hs : starEach [e, e2] X.env = (false, eval e X.env) :: starEach [e2] X.env := by rfl) (hpl : (backTo pos2 (starEach [e2] X.env)).any (·.1) = false := by rfl)
    (hs2 : starEach [.Call (.Name "zip" p2) [e, e2] [] pos2] X.env = (false, eval (.Call (.Name "zip" p2) [e, e2] [] pos2) X.env) :: starEach [] X.env := by rfl) :
    PE X (.Call (.Name "tuple" p) [.Call (.Name "zip" p2) [e, e2] [] pos2] [] pos) (tTupZip X.K ta) := by
  refine ⟨fun pins s σ H Q I h => ?_⟩
  refine Call_ (ld_blt I hg hm boot_tuple (PyProof.Rows.callWith_type1 (args_cons (Call_ (ld_blt I hg2 hm2 PyProof.Rows.boot_zip (PyProof.Rows.callWith_type1 (thn (ha.run pos2 pins s σ H _ I h) fun us s1 ⟨vs, H1, I1, r1, q1⟩ => ?_) hs hpl))) hs2) hs2 rfl))
  obtain ⟨a, b, xs, ys, ex, hqx, hqy, hl, h0, q⟩ := q1
  subst ex
  cases r1 with
  | cons r rr =>
    cases rr with
    | cons r' rr =>
      cases rr
      cases r
      cases r'
      obtain ⟨its, rv, p1, _⟩ := I1.tuple hqx
      obtain ⟨its2, rv2, p2, _⟩ := I1.tuple hqy
      obtain ⟨o1, ho1, _⟩ := id p1
      obtain ⟨o2, ho2, _⟩ := id p2
      refine call_zipT (show s1.heap.IsTuple a its.toArray from p1) (show s1.heap.IsTuple b its2.toArray from p2) fun h' hz hTI hTO h1 h2 hsz hk => args_nil ?_
      have I2 : Inv X pins σ H1 { s1 with heap := h' } := I1.kept (t' := s1.toks) hk
      have fp : ∀ c ∈ [s1.heap.objs.size + 4, s1.heap.objs.size + 3, s1.heap.objs.size, s1.heap.objs.size + 1], FpOk X pins H1 c := fun c hcm => by
        have e' : c = s1.heap.objs.size + 4 ∨ c = s1.heap.objs.size + 3 ∨ c = s1.heap.objs.size ∨ c = s1.heap.objs.size + 1 := by simpa using hcm
        have hle : s1.heap.objs.size ≤ c := by omega
        exact I1.fpOk hle (I1.hok.fresh hle)
      refine call_tuple_zip (I1.ok.hd hc) (PySem.W.ktu_apart s1.heap.objs.size a b (Heap.lt_size ho1) (Heap.lt_size ho2)) hl h0 I2 hqx hqy fp hz hTI ⟨_, _, hTO⟩ h1 h2 fun s' H' us l J1 J2 J3 J4 => ?_
      have hz' : us.length ≤ sizeLine := by
        obtain ⟨_, _, _, q'⟩ := I1.tuple hqx
        rw [J4.1]
        exact q'
      refine ⟨.ref s'.heap.objs.size, upd H' s'.heap.objs.size (.tup us), J1.laid (t' := s'.toks) (fun c o e => Heap.get?_push_of_some _ e) (Nat.le_refl _) (show ObjOk X.prog X.w _ _ _ (.tup us) from ⟨hz', l, J3, IsTup.new _ _⟩), rfl, q _ _ _ J2 J4 (J1.hok.fresh (Nat.le_refl _))⟩
end
end Cm

set_option linter.all false
/-! tuple(zip(a, b)) of a tuple and a list that is no shorter -/
namespace Cm
open PySem L2 PySem.Spec PyProof.Rows
open RZ (nextOf_tuple_item nextOf_tuple_end)
section
variable {prog : Program} {w : World} {A : Around} {E : Value → Shared → Prop} {s : Shared}
theorem zh_itemL {z TI TO T i1 i2 l1 l2 : Addr} {f : Bool} {oT : Obj} {k1 k2 : Nat} {xs ys : Array Value} {x y : Value} {Q : Value → Shared → Prop} (D : ZipApart z TI TO i1 i2 l1 l2)
    (hz : IsZipHeld s.heap z TI TO T f) (hT : s.heap.get? T = some oT) (hTI : IsPair s.heap TI (.ref i1) (.ref i2))
    (h1 : s.heap.IsTupleIter i1 l1 k1) (h2 : s.heap.IsListIter i2 l2 k2) (hl1 : s.heap.IsTuple l1 xs) (hl2 : s.heap.IsList l2 ys) (hx : xs[k1]? = some x) (hy : ys[k2]? = some y)
    (hQ : ∀ h', IsZipHeld h' z TI TO T true → h'.IsTupleIter i1 l1 (k1 + 1) → h'.IsListIter i2 l2 (k2 + 1) → IsPair h' s.heap.objs.size x y → h'.objs.size = s.heap.objs.size + 1 →
      (∀ c o, c ≠ z → c ≠ i1 → c ≠ i2 → s.heap.get? c = some o → h'.get? c = some o) → Q (.ref s.heap.objs.size) { s with heap := h' }) :
    wpAny (model prog w) A (Builtin.«zip.__next__» ⟨[.ref z], []⟩) (fun fin s' => ∃ v, fin = .done (.ret v) ∧ Q v s') E s := by
  show wpAny _ _ (field (.ref z) 2 >>= _) _ _ _
  refine wpAny_bind (wpAny_field hz rfl (x := .bool false) rfl ?_)
  show wpAny _ _ (field (.ref z) 3 >>= _) _ _ _
  refine wpAny_bind (wpAny_field hz rfl (x := .ref TI) rfl ?_)
  refine wpAny_bind (wpAny_seqItems hTI rfl ?_)
  show wpAny _ _ (Builtin.SmallTypes.ownedTupleIsFree (.ref z) >>= _) _ _ _
  refine wpAny_bind (wpAny_tupleHeld_zip hz hT fun h₁ hz₁ hs₁ => ?_)
  simp only [Bool.false_eq_true, if_false]
  refine wpAny_bind ?_
  rw [← Array.forIn_toList]
  simp only [List.forIn_cons, List.forIn_nil]
  refine wpAny_bind (wpAny_bind (wpAny_holding ?_))
  show wpAny _ _ (Builtin.SmallTypes.nextOf (.ref i1) >>= _) _ _ _
  refine wpAny_bind (nextOf_tuple_item (s := { s with heap := h₁ }) (h1.extBut hs₁.extBut D.i1z) (hl1.extBut hs₁.extBut D.l1z) hx fun h₂ h1₂ hs₂ => wpAny_pure ?_)
  refine wpAny_pure ?_
  refine wpAny_bind (wpAny_bind (wpAny_holding ?_))
  show wpAny _ _ (Builtin.SmallTypes.nextOf (.ref i2) >>= _) _ _ _
  refine wpAny_bind (wpAny_nextOf_list_item (s := { s with heap := h₂ }) ((h2.extBut hs₁.extBut D.i2z).extBut hs₂.extBut D.i12.symm) ((hl2.extBut hs₁.extBut D.l2z).extBut hs₂.extBut D.l2i1) hy fun h₃ h2₃ hs₃ => wpAny_pure ?_)
  refine wpAny_pure (wpAny_pure ?_)
  show wpAny _ _ (newTuple [x, y] >>= _) _ _ _
  refine wpAny_bind (wpAny_newTuple ?_)
  have hsz : h₃.objs.size = s.heap.objs.size := by rw [hs₃.1, hs₂.1, hs₁.1]
  have hz₃ : IsZipHeld h₃ z TI TO T true := hs₃.extBut _ _ D.i2z.symm (hs₂.extBut _ _ D.i1z.symm hz₁)
  have hk : ∀ c o, c ≠ z → c ≠ i1 → c ≠ i2 → s.heap.get? c = some o → h₃.get? c = some o := fun c o c1 c2 c3 e => hs₃.extBut _ _ c3 (hs₂.extBut _ _ c2 (hs₁.extBut _ _ c1 e))
  have h1₃ : h₃.IsTupleIter i1 l1 (k1 + 1) := h1₂.extBut hs₃.extBut D.i12
  refine wpAny_pure ⟨_, rfl, ?_⟩
  show Q (.ref h₃.objs.size) _
  have hp : IsPair (h₃.push { cls := .type "tuple", data := .seq #[x, y] }) h₃.objs.size x y := Heap.get?_push_size _ rfl
  have hz4 : (h₃.push { cls := .type "tuple", data := .seq #[x, y] }).objs.size = h₃.objs.size + 1 := Heap.size_push ..
  rw [hsz] at hp hz4 ⊢
  exact hQ _ (Heap.get?_push_of_some _ hz₃) (h1₃.at fun o e => Heap.get?_push_of_some _ e) (h2₃.at fun o e => Heap.get?_push_of_some _ e) hp hz4 fun c o c1 c2 c3 e => Heap.get?_push_of_some _ (hk c o c1 c2 c3 e)
theorem zh_nextL {z TI TO T i1 i2 l1 l2 : Addr} {f : Bool} {oT : Obj} {k1 k2 : Nat} {xs ys : Array Value} {x y : Value} {Q : Option Value → Shared → Prop} (D : ZipApart z TI TO i1 i2 l1 l2)
    (hz : IsZipHeld s.heap z TI TO T f) (hT : s.heap.get? T = some oT) (hTI : IsPair s.heap TI (.ref i1) (.ref i2))
    (h1 : s.heap.IsTupleIter i1 l1 k1) (h2 : s.heap.IsListIter i2 l2 k2) (hl1 : s.heap.IsTuple l1 xs) (hl2 : s.heap.IsList l2 ys) (hx : xs[k1]? = some x) (hy : ys[k2]? = some y)
    (hQ : ∀ h', IsZipHeld h' z TI TO T true → h'.IsTupleIter i1 l1 (k1 + 1) → h'.IsListIter i2 l2 (k2 + 1) → IsPair h' s.heap.objs.size x y → h'.objs.size = s.heap.objs.size + 1 →
      (∀ c o, c ≠ z → c ≠ i1 → c ≠ i2 → s.heap.get? c = some o → h'.get? c = some o) → Q (some (.ref s.heap.objs.size)) { s with heap := h' }) :
    wpAny (model prog w) A (pyNext (.ref z)) Q E s := by
  have hTy : s.TypeIs (.ref z) "zip" := ⟨_, hz, rfl⟩
  unfold pyNext
  exact wpAny_bind (wpAny_attempt (wpAny_callSpecial?_slot (name := Str.ofString "__next__") hTy F.slot_zip_next
    (wpAny_call_entry F.slot_zip_next hTy F.entry_zip_next
      (zh_itemL D hz hT hTI h1 h2 hl1 hl2 hx hy fun h' a1 a3 a4 a5 a6 a7 => wpAny_pure (hQ h' a1 a3 a4 a5 a6 a7)) (F.args_zip_next_1 _))))
end
section
variable {X : Cx} {pins : List (Addr × Obj)} {σ : L2.St} {A : Around} {E : Value → Shared → Prop} {z TI TO i1 i2 a b S : Addr} {xs ys : List V} {s : Shared} {H : Hp}
theorem zip_loopL {R : Result → Shared → Prop} {T0 : Addr} {res : Value} (hh : A.handled = none) (D : ZipApart z TI TO i1 i2 a b) (hl : xs.length ≤ ys.length) (hSz : S ≠ z) (hS1 : S ≠ i1) (hS2 : S ≠ i2) (hSI : S ≠ TI) (hS0 : S ≠ T0) (hTz : T0 ≠ z) (hT1 : T0 ≠ i1) (hT2 : T0 ≠ i2) {H0 : Hp} (hx : SqT X.K H0 a xs) (hy : SqL X.K H0 b ys) :
    ∀ (k i : Nat) (s : Shared) (acc : Array Value) (c : Nat) (H : Hp) (us : List V), xs.length - i = k → i ≤ xs.length → Inv X pins σ H s → Same H0 H → (∀ c ∈ [z, i1, i2, S], FpOk X pins H c) →
      (∃ f, IsZipHeld s.heap z TI TO T0 f) → (∃ oT, s.heap.get? T0 = some oT) → IsPair s.heap TI (.ref i1) (.ref i2) → s.heap.IsTupleIter i1 a i → s.heap.IsListIter i2 b i →
      s.heap.get? S = some { cls := .type "list", dict := none, data := .seq acc c, slots := #[] } → Vals us acc.toList → Pairs H xs ys us i →
      (∀ s' acc' c' H' us', Inv X pins σ H' s' → Same H0 H' → s'.heap.get? S = some { cls := .type "list", dict := none, data := .seq acc' c', slots := #[] } → Vals us' acc'.toList → Pairs H' xs ys us' xs.length → R (.ok (.ret res)) s') →
      codeAny (model X.prog X.w) A (.builtin "list.extend.loop" ⟨[.ref S, .ref z, res], []⟩) R s := by
  intro k
  induction k with
  | zero =>
    intro i s acc c H us hk hi I sm fp hz hT hTI h1 h2 hS hv hp hR
    have hin : i = xs.length := by omega
    obtain ⟨f, hz⟩ := hz
    obtain ⟨oT, hT⟩ := hT
    obtain ⟨its, rv, p, hsz⟩ := I.tuple (sqt_same sm hx)
    refine codeAny_builtin F.entry_extend_loop ?_
    rw [Around.under_plainId F.plain_extend_loop _]
    show wpAny _ A.in1 (pyNext (.ref z) >>= _) _ _ s
    refine wpAny_bind (zh_done (A := A.in1) hh D hz hT hTI h1 p (by have := rv.length; simp; omega) fun h' hk => ?_)
    refine wpAny_pure (hR { s with heap := h' } acc c H us (I.turnedL (t' := s.toks) (ch := [z, i1, i2]) (fun c' o hb q => hk c' o (fun q' => hb (by simp [q'])) (fun q' => hb (by simp [q'])) (fun q' => hb (by simp [q'])) q) fun c' hc' => fp c' (by rcases (by simpa using hc' : c' = z ∨ c' = i1 ∨ c' = i2) with q | q | q <;> simp [q])) sm (hk S _ hSz hS1 hS2 hS) hv ?_)
    rw [← hin]
    exact hp
  | succ k ih =>
    intro i s acc c H us hk hi I sm fp hz hT hTI h1 h2 hS hv hp hR
    have hlt : i < xs.length := by omega
    obtain ⟨f, hz⟩ := hz
    obtain ⟨oT, hT⟩ := hT
    have ex := List.getElem?_eq_getElem hlt
    have ey := List.getElem?_eq_getElem (by omega : i < ys.length)
    obtain ⟨its, rv, p, hsz⟩ := I.tuple (sqt_same sm hx)
    obtain ⟨its2, rv2, p2, hsz2⟩ := I.list (sm.seq hy)
    obtain ⟨u, hu, ru⟩ := rv.get ex
    obtain ⟨u2, hu2, ru2⟩ := rv2.get ey
    have hzl : z < s.heap.objs.size := Heap.lt_size hz
    have h1l : i1 < s.heap.objs.size := by obtain ⟨_, e, _⟩ := h1; exact Heap.lt_size e
    have h2l : i2 < s.heap.objs.size := by obtain ⟨_, e, _⟩ := h2; exact Heap.lt_size e
    have hSl : S < s.heap.objs.size := Heap.lt_size hS
    refine codeAny_builtin F.entry_extend_loop ?_
    rw [Around.under_plainId F.plain_extend_loop _]
    show wpAny _ A.in1 (pyNext (.ref z) >>= _) _ _ s
    refine wpAny_bind (zh_nextL D hz hT hTI h1 h2 p p2.isList (x := u) (y := u2) (by simpa using hu) (by simpa using hu2) fun h' hz' h1' h2' hT' hsz' hk' => ?_)
    have hS' : h'.get? S = some { cls := .type "list", dict := none, data := .seq acc c, slots := #[] } := hk' S _ hSz hS1 hS2 hS
    have new : ObjOk X.prog X.w (upd H s.heap.objs.size (.tup [xs[i], ys[i]])) h' s.heap.objs.size (.tup [xs[i], ys[i]]) :=
      ⟨by show 2 ≤ sizeLine; decide, [u, u2], .cons ru (.cons ru2 .nil), ⟨_, hT', rfl, _, rfl⟩⟩
    have I1 : Inv X pins σ (upd H s.heap.objs.size (.tup [xs[i], ys[i]])) { s with heap := h' } :=
      I.turnedNew (t' := s.toks) (ch := [z, i1, i2]) (fun c o hb q => hk' c o (fun q' => hb (by simp [q'])) (fun q' => hb (by simp [q'])) (fun q' => hb (by simp [q'])) q) (fun c' hc' => fp c' (by rcases (by simpa using hc' : c' = z ∨ c' = i1 ∨ c' = i2) with q | q | q <;> simp [q])) (Nat.le_refl _) new
    have fresh : H s.heap.objs.size = none := I.hok.fresh (Nat.le_refl _)
    have fp1 : ∀ c ∈ [z, i1, i2, S], FpOk X pins (upd H s.heap.objs.size (.tup [xs[i], ys[i]])) c := fun c hc => fp_upd (fp c hc) (by
      have : c = z ∨ c = i1 ∨ c = i2 ∨ c = S := by simpa using hc
      rcases this with q | q | q | q <;> subst q <;> exact Nat.ne_of_lt (by assumption))
    show wpAny _ A.in1 (updateSeq S (·.push (.ref s.heap.objs.size)) >>= _) _ _ _
    refine wpAny_bind ?_
    have hal : acc.size = i := by
      have := hv.length
      rw [hp.1, Array.length_toList] at this
      exact this.symm
    have oth : ∀ c' o, c' ≠ S → h'.get? c' = some o → (h'.update S (Obj.mapSeq (·.push (.ref s.heap.objs.size)))).get? c' = some o := fun c' o hb e => (Heap.get?_update_other _ _ (Ne.symm hb)).trans e
    have I2 := I1.turnedL (h' := h'.update S (Obj.mapSeq (·.push (.ref s.heap.objs.size)))) (t' := s.toks) (ch := [S]) (fun c' o hb q => oth c' o (fun q' => hb (by simp [q'])) q) (fun c' hc' => fp1 c' (by simp [(by simpa using hc' : c' = S)]))
    refine wpAny_updateSeq hS' rfl (wpAny_pure ⟨plainId_quiet F.plain_extend_loop _, ih (i + 1) _ (acc.push (.ref s.heap.objs.size)) _ _ (us ++ [.ref s.heap.objs.size]) (by omega) hlt I2 (sm.trans (same_new fresh)) fp1 ⟨true, oth _ _ hSz.symm hz'⟩ ⟨oT, oth _ _ hS0.symm (hk' _ _ hTz hT1 hT2 hT)⟩ (oth _ _ hSI.symm (hk' _ _ D.TIz D.TIi1 D.TIi2 hTI))
        (h1'.at fun o q => oth _ o hS1.symm q) (h2'.at fun o q => oth _ o hS2.symm q) (Heap.get?_update_self _ hS' rfl) ?_ (hp.snoc fresh ex ey) hR⟩) (by rw [hal]; omega) (by show (acc.push _).size ≤ sizeLine + 1; rw [Array.size_push, hal]; omega)
    rw [Array.toList_push]
    exact hv.append (.cons rfl .nil)
theorem collect_zipL {Q : List Value → Shared → Prop} (hh : A.handled = none) (D : ZipApart z TI TO i1 i2 a b) (hl : xs.length ≤ ys.length) (h0 : 0 < xs.length) (I : Inv X pins σ H s) (hx : SqT X.K H a xs) (hy : SqL X.K H b ys) (fp : ∀ c ∈ [z, TO, i1, i2], FpOk X pins H c)
    (hz : IsZip s.heap z TI TO .none) (hTI : IsPair s.heap TI (.ref i1) (.ref i2)) (hTO : ∃ x y, IsPair s.heap TO x y) (h1 : s.heap.IsTupleIter i1 a 0) (h2 : s.heap.IsListIter i2 b 0)
    (hQ : ∀ s' H' us l, Inv X pins σ H' s' → Same H H' → Vals us l → Pairs H' xs ys us xs.length → Q l s') : wpAny (model X.prog X.w) A (collect (.ref z)) Q E s := by
  obtain ⟨x0, y0, hTO⟩ := hTO
  have hzl : z < s.heap.objs.size := Heap.lt_size hz
  have hTIl : TI < s.heap.objs.size := Heap.lt_size hTI
  have hTOl : TO < s.heap.objs.size := Heap.lt_size hTO
  have h1l : i1 < s.heap.objs.size := by obtain ⟨_, e, _⟩ := h1; exact Heap.lt_size e
  have h2l : i2 < s.heap.objs.size := by obtain ⟨_, e, _⟩ := h2; exact Heap.lt_size e
  have fpS : FpOk X pins H s.heap.objs.size := I.fpOk (Nat.le_refl _) (I.hok.fresh (Nat.le_refl _))
  generalize eS : s.heap.objs.size = S at *
  have nz : S ≠ z := Nat.ne_of_gt hzl
  have nTI : S ≠ TI := Nat.ne_of_gt hTIl
  have nTO : S ≠ TO := Nat.ne_of_gt hTOl
  have n1 : S ≠ i1 := Nat.ne_of_gt h1l
  have n2 : S ≠ i2 := Nat.ne_of_gt h2l
  unfold collect
  refine wpAny_bind (wpAny_runValue (codeAny_builtin F.entry_proto_collect ?_))
  rw [Around.under_plainId F.plain_proto_collect _]
  show wpAny _ A.in1 (newList [] >>= fun l => again (.builtin "list.__iadd__" ⟨[l, .ref z], []⟩)) _ _ s
  refine wpAny_bind (wpAny_newObj_type ?_)
  rw [eS]
  refine wpAny_pure ⟨plainId_quiet F.plain_list_iadd _, codeAny_builtin F.entry_list_iadd ?_⟩
  rw [Around.under_plainId F.plain_list_iadd _]
  have up : ∀ c o, s.heap.get? c = some o → (s.heap.push { cls := .type "list", data := .seq ([] : List Value).toArray }).get? c = some o := fun c o e => Heap.get?_push_of_some _ e
  have hS₁ : (s.heap.push { cls := .type "list", data := .seq ([] : List Value).toArray }).get? S = some { cls := .type "list", data := .seq ([] : List Value).toArray } := by rw [← eS]; exact Heap.get?_push_size _ rfl
  have I1 : Inv X pins σ H { s with heap := s.heap.push { cls := .type "list", data := .seq ([] : List Value).toArray } } := I.kept (t' := s.toks) up
  have hTy : ({ s with heap := s.heap.push { cls := .type "list", data := .seq ([] : List Value).toArray } } : Shared).TypeIs (.ref z) "zip" := ⟨_, up _ _ hz, rfl⟩
  show wpAny _ A.in1 (Builtin.List.listExtendWith (.ref S) (.ref z) (.ref S)) _ _ _
  unfold Builtin.List.listExtendWith
  refine wpAny_bind (wpAny_typeOf hTy ?_)
  have e1 : Builtin.List.listSameRef (.ref S) (.ref z) = false := by simp [Builtin.List.listSameRef, nz]
  have e2 : (Value.type "zip" == Value.type "list") = false := by decide
  have e3 : (Value.type "zip" == Value.type "tuple") = false := by decide
  simp only [e1, e2, e3, Bool.or_false, Bool.false_eq_true, if_false]
  refine wpAny_bind (wpAny_pyIter_zip (up _ _ hz) ?_)
  refine wpAny_bind (wpAny_holding ?_)
  unfold Builtin.List.listLengthHint
  refine wpAny_bind (wpAny_specialOf hTy nolen_zip ?_)
  show wpAny _ A.in1 (specialOf (Value.ref z) (Str.ofString "__length_hint__") >>= _) _ _ _
  refine wpAny_bind (wpAny_specialOf hTy nohint_zip ?_)
  refine wpAny_pure ?_
  show wpAny _ A.in1 (rule "list.extend.makes-room" >>= fun _ => Builtin.List.listTouch (.ref S) >>= fun _ =>
    again (.builtin "list.extend.loop" ⟨[.ref S, .ref z, .ref S], []⟩)) _ _ _
  refine wpAny_bind (wpAny_rule ?_)
  refine wpAny_bind ?_
  show wpAny _ A.in1 (updateSeq S (·.push .none) >>= fun _ => updateSeq S (·.pop)) _ _ _
  refine wpAny_bind (wpAny_updateSeq hS₁ rfl ?_)
  have hS₂ := Heap.get?_update_self (Obj.mapSeq (·.push Value.none)) hS₁ rfl
  refine wpAny_updateSeq hS₂ rfl ?_
  have hS₃ := Heap.get?_update_self (Obj.mapSeq (·.pop)) hS₂ rfl
  have oth : ∀ c o, c ≠ S → s.heap.get? c = some o →
      (((s.heap.push { cls := .type "list", data := .seq ([] : List Value).toArray }).update S (Obj.mapSeq (·.push Value.none))).update S (Obj.mapSeq (·.pop))).get? c = some o :=
    fun c o hb e => (Heap.get?_update_other _ _ (Ne.symm hb)).trans ((Heap.get?_update_other _ _ (Ne.symm hb)).trans (up _ _ e))
  generalize eh3 : ((s.heap.push { cls := .type "list", data := .seq ([] : List Value).toArray }).update S (Obj.mapSeq (·.push Value.none))).update S (Obj.mapSeq (·.pop)) = h3 at *
  have I2 : Inv X pins σ H { s with heap := h3 } := by
    refine I.turnedL (t' := s.toks) (ch := [S]) (fun c o hb e => oth c o (fun q => hb (by simp [q])) e) fun c hc => ?_
    have : c = S := by simpa using hc
    rw [this]; exact fpS
  have hz3 := oth _ _ nz.symm hz
  have hTI3 := oth _ _ nTI.symm hTI
  have hTO3 := oth _ _ nTO.symm hTO
  have h13 : h3.IsTupleIter i1 a 0 := h1.at fun o q => oth _ o n1.symm q
  have h23 : h3.IsListIter i2 b 0 := h2.at fun o q => oth _ o n2.symm q
  have hS3l : S < h3.objs.size := Heap.lt_size hS₃
  have fp3 : ∀ c ∈ [z, TO, i1, i2, S], FpOk X pins H c := fun c hc => by
    have : c = z ∨ c = TO ∨ c = i1 ∨ c = i2 ∨ c = S := by simpa using hc
    rcases this with q | q | q | q | q
    · exact fp c (by simp [q])
    · exact fp c (by simp [q])
    · exact fp c (by simp [q])
    · exact fp c (by simp [q])
    · rw [q]; exact fpS
  have ex := List.getElem?_eq_getElem h0
  have ey := List.getElem?_eq_getElem (by omega : 0 < ys.length)
  obtain ⟨its, rv, p, hsz⟩ := I2.tuple hx
  obtain ⟨its2, rv2, p2, hsz2⟩ := I2.list hy
  obtain ⟨u, hu, ru⟩ := rv.get ex
  obtain ⟨u2, hu2, ru2⟩ := rv2.get ey
  refine wpAny_pure ⟨plainId_quiet F.plain_extend_loop _, codeAny_builtin F.entry_extend_loop ?_⟩
  rw [Around.under_plainId F.plain_extend_loop _]
  show wpAny _ A.in1 (pyNext (.ref z) >>= _) _ _ { s with heap := h3 }
  have hh2 : A.in1.in1.handled = none := hh
  have i1l : 0 < its.toArray.size := by
    have := List.getElem?_eq_some_iff.mp hu
    simpa using this.1
  have i2l : 0 < its2.toArray.size := by
    have := List.getElem?_eq_some_iff.mp hu2
    simpa using this.1
  refine wpAny_bind (wpAny_pyNext_zipD2_item (i := 0) (s := { s with heap := h3 }) (sep_of D) (Draws.tuple hh2 i1 a D.l1i1 its.toArray) (Draws.list hh2 i2 b D.l2i2 its2.toArray) hz3 hTI3 hTO3 ⟨h13, p⟩ ⟨h23, p2.isList⟩ i1l i2l fun x1 x2 h' tk y1 y2 hz' hTO' st1 st2 hT' hsz' hk' => ?_)
  obtain rfl : u = x1 := by
    have : its[0]? = some x1 := by simpa using y1
    rw [hu] at this
    exact Option.some.inj this
  obtain rfl : u2 = x2 := by
    have : its2[0]? = some x2 := by simpa using y2
    rw [hu2] at this
    exact Option.some.inj this
  have h1' := st1.1
  have h2' := st2.1
  have nT : ∀ c, c ∈ [z, TI, TO, i1, i2, S] → c ≠ h3.objs.size := fun c hc => by
    have : c = z ∨ c = TI ∨ c = TO ∨ c = i1 ∨ c = i2 ∨ c = S := by simpa using hc
    rcases this with q | q | q | q | q | q <;> subst q
    · exact Nat.ne_of_lt (Heap.lt_size hz3)
    · exact Nat.ne_of_lt (Heap.lt_size hTI3)
    · exact Nat.ne_of_lt (Heap.lt_size hTO3)
    · obtain ⟨_, e, _⟩ := h13; exact Nat.ne_of_lt (Heap.lt_size e)
    · obtain ⟨_, e, _⟩ := h23; exact Nat.ne_of_lt (Heap.lt_size e)
    · exact Nat.ne_of_lt hS3l
  have new : ObjOk X.prog X.w (upd H h3.objs.size (.tup [xs[0], ys[0]])) h' h3.objs.size (.tup [xs[0], ys[0]]) :=
    ⟨by show 2 ≤ sizeLine; decide, [u, u2], .cons ru (.cons ru2 .nil), ⟨_, hT', rfl, _, rfl⟩⟩
  have fresh : H h3.objs.size = none := I2.hok.fresh (Nat.le_refl _)
  have I3 : Inv X pins σ (upd H h3.objs.size (.tup [xs[0], ys[0]])) { s with heap := h', toks := tk } :=
    I2.turnedNew (t' := tk) (ch := [z, TO, i1, i2]) (fun c o hb q => hk' c o (fun q' => hb (by simp [q'])) (fun q' => hb (by simp [q'])) (fun q' => hb (by simp [q'])) (fun q' => hb (by simp [q'])) q) (fun c' hc' => fp c' hc') (Nat.le_refl _) new
  have fp1 : ∀ c ∈ [z, i1, i2, S], FpOk X pins (upd H h3.objs.size (.tup [xs[0], ys[0]])) c := fun c hc => by
    have : c = z ∨ c = i1 ∨ c = i2 ∨ c = S := by simpa using hc
    exact fp_upd (fp3 c (by rcases this with q | q | q | q <;> simp [q])) (nT c (by rcases this with q | q | q | q <;> simp [q]))
  have hS' := hk' S _ nz nTO n1 n2 hS₃
  show wpAny _ A.in1 (updateSeq S (·.push (.ref h3.objs.size)) >>= _) _ _ _
  refine wpAny_bind ?_
  have oth2 : ∀ c' o, c' ≠ S → h'.get? c' = some o → (h'.update S (Obj.mapSeq (·.push (.ref h3.objs.size)))).get? c' = some o := fun c' o hb e => (Heap.get?_update_other _ _ (Ne.symm hb)).trans e
  have I4 := I3.turnedL (h' := h'.update S (Obj.mapSeq (·.push (.ref h3.objs.size)))) (t' := tk) (ch := [S]) (fun c' o hb q => oth2 c' o (fun q' => hb (by simp [q'])) q) (fun c' hc' => fp1 c' (by simp [(by simpa using hc' : c' = S)]))
  have nT0 : S ≠ h3.objs.size := nT S (by simp)
  refine wpAny_updateSeq hS' rfl (wpAny_pure ⟨plainId_quiet F.plain_extend_loop _, zip_loopL (X := X) (pins := pins) (σ := σ) (A := A) (T0 := h3.objs.size) (H0 := H) hh D hl nz n1 n2 nTI nT0 (nT z (by simp)).symm (nT i1 (by simp)).symm (nT i2 (by simp)).symm hx hy
    (xs.length - 1) 1 _ _ _ _ [.ref h3.objs.size] rfl h0 I4 (same_new fresh) fp1 ⟨false, oth2 _ _ nz.symm hz'⟩ ⟨_, oth2 _ _ nT0.symm hT'⟩ (oth2 _ _ nTI.symm (hk' _ _ D.TIz D.TITO D.TIi1 D.TIi2 hTI3)) (h1'.at fun o q => oth2 _ o n1.symm q) (h2'.at fun o q => oth2 _ o n2.symm q) (Heap.get?_update_self _ hS' rfl) (.cons rfl .nil) ?_ fun s' acc' c' H' us' J1 J2 J3 J4 J5 => ?_⟩)
  · have := Pairs.snoc (H := H) (xs := xs) (ys := ys) (us := []) (i := 0) ⟨rfl, fun j hj => absurd hj (Nat.not_lt_zero j)⟩ fresh ex ey
    exact this
  · show wpAny _ A (load S >>= _) _ _ s'
    refine wpAny_bind (wpAny_load J3 ?_)
    exact wpAny_pure (hQ s' H' us' acc'.toList J1 J2 J4 J5)
theorem code_tuple_zipL {Q₁ : Value → Shared → Prop} (hh : A.handled = none) (D : ZipApart z TI TO i1 i2 a b) (hl : xs.length ≤ ys.length) (h0 : 0 < xs.length) (I : Inv X pins σ H s) (hx : SqT X.K H a xs) (hy : SqL X.K H b ys) (fp : ∀ c ∈ [z, TO, i1, i2], FpOk X pins H c)
    (hz : IsZip s.heap z TI TO .none) (hTI : IsPair s.heap TI (.ref i1) (.ref i2)) (hTO : ∃ x y, IsPair s.heap TO x y) (h1 : s.heap.IsTupleIter i1 a 0) (h2 : s.heap.IsListIter i2 b 0)
    (h : ∀ s' H' us (l : List Value), Inv X pins σ H' s' → Same H H' → Vals us l → Pairs H' xs ys us xs.length → Q₁ (.ref s'.heap.objs.size) { s' with heap := s'.heap.push { cls := .type "tuple", data := .seq l.toArray } }) :
    codeAny (model X.prog X.w) A (.call (.builtin "tuple.__new__") ⟨[.type "tuple", .ref z], []⟩) (wants Q₁ E) s := by
  refine codeAny_of_tree ?_
  show wpAny _ A.in1 (do checkBuiltinCall "tuple.__new__" ⟨[.type "tuple", .ref z], []⟩; again (.builtin "tuple.__new__" ⟨[.type "tuple", .ref z], []⟩)) _ _ s
  refine wpAny_bind (wpAny_of_eq (F.newCall_tuple_1 _) (wpAny_pure ⟨plainId_quiet F.plain_tuple_new _, codeAny_builtin F.entry_tuple_new ?_⟩))
  rw [Around.under_plainId F.plain_tuple_new _]
  have hsub := sub_tuple_self
  have hinit := init_tuple_lookup
  have hmh := madeHere_tuple
  have hTI' : s.TypeIs (.ref z) "zip" := ⟨_, hz, rfl⟩
  have hh1 : A.in1.handled = none := hh
  have hn : xs.length ≤ sizeLine := by
    obtain ⟨_, _, _, q⟩ := I.tuple hx
    exact q
  wp_walk using wpAny_typeOf hTI', collect_zipL (A := A.in1) hh1 D hl h0 I hx hy fp hz hTI hTO h1 h2
  intro s' H' us l J1 J2 J3 J4
  show wpAny _ _ (Builtin.Tuple.tupleExact l.toArray >>= fun v => ret v) _ _ _
  unfold Builtin.Tuple.tupleExact
  refine wpAny_bind (wpAny_newObj_type ?_ (by show l.toArray.size ≤ sizeLine; rw [List.size_toArray, ← J3.length, J4.1]; exact hn))
  exact wpAny_pure (h s' H' us l J1 J2 J3 J4)
theorem call_tuple_zipL {Q : Value → Shared → Prop} (hh : A.handled = none) (D : ZipApart z TI TO i1 i2 a b) (hl : xs.length ≤ ys.length) (h0 : 0 < xs.length) (I : Inv X pins σ H s) (hx : SqT X.K H a xs) (hy : SqL X.K H b ys) (fp : ∀ c ∈ [z, TO, i1, i2], FpOk X pins H c)
    (hz : IsZip s.heap z TI TO .none) (hTI : IsPair s.heap TI (.ref i1) (.ref i2)) (hTO : ∃ x y, IsPair s.heap TO x y) (h1 : s.heap.IsTupleIter i1 a 0) (h2 : s.heap.IsListIter i2 b 0)
    (hQ : ∀ s' H' us (l : List Value), Inv X pins σ H' s' → Same H H' → Vals us l → Pairs H' xs ys us xs.length → Q (.ref s'.heap.objs.size) { s' with heap := s'.heap.push { cls := .type "tuple", data := .seq l.toArray } }) :
    wpAny (model X.prog X.w) A (call (.type "tuple") [.ref z]) Q E s := by
  refine callType_codes (Q₁ := fun obj s₁ => s₁.TypeIs obj "tuple" ∧ Q obj s₁) F.called_tuple (F.typeCall_tuple_1 _) F.entry_object_init
    (code_tuple_zipL (A := A.in1) hh D hl h0 I hx hy fp hz hTI hTO h1 h2 fun s' H' us l J1 J2 J3 J4 => ⟨⟨_, Heap.get?_push_size _ rfl, rfl⟩, hQ s' H' us l J1 J2 J3 J4⟩) fun obj s₁ h₁ => ?_
  exact ⟨h₁.1, F.args_object_init_2 obj _, object_init_meets F.called_tuple.init.lookup F.called_tuple.made (by decide) X.prog X.w A.in1 _ s₁ ⟨h₁.1, rfl, h₁.2⟩⟩
/-- tuple(zip(x, y)) of a tuple, not empty, and a list that is no shorter: a new tuple of new pairs -/
def tTupZipL (K : PySem.W.Frag) (ta : TA) : TE := fun σ H Q => ta σ H fun vs H1 => ∃ a b xs ys, vs = [.ref a, .ref b] ∧ SqT K H1 a xs ∧ SqL K H1 b ys ∧ xs.length ≤ ys.length ∧ 0 < xs.length ∧
  ∀ H2 us q, Same H1 H2 → Pairs H2 xs ys us xs.length → H2 q = none → Q (.ref q) (upd H2 q (.tup us))
theorem pe_tupZipL {e e2 : Expr} {ta : TA} {p p2 pos pos2 : Pos} (hc : X.calm = true) (hg : Gl X "tuple") (hm : X.mg "tuple" = none) (hg2 : Gl X "zip") (hm2 : X.mg "zip" = none) (ha : PA X [e, e2] ta)
    (hs : starEach [e, e2] X.env = (false, eval e X.env) :: starEach [e2] X.env := by rfl) (hpl : (backTo pos2 (starEach [e2] X.env)).any (·.1) = false := by rfl)
    (hs2 : starEach [.Call (.Name "zip" p2) [e, e2] [] pos2] X.env = (false, eval (.Call (.Name "zip" p2) [e, e2] [] pos2) X.env) :: starEach [] X.env := by rfl) :
    PE X (.Call (.Name "tuple" p) [.Call (.Name "zip" p2) [e, e2] [] pos2] [] pos) (tTupZipL X.K ta) := by
  refine ⟨fun pins s σ H Q I h => ?_⟩
  refine Call_ (ld_blt I hg hm boot_tuple (PyProof.Rows.callWith_type1 (args_cons (Call_ (ld_blt I hg2 hm2 PyProof.Rows.boot_zip (PyProof.Rows.callWith_type1 (thn (ha.run pos2 pins s σ H _ I h) fun us s1 ⟨vs, H1, I1, r1, q1⟩ => ?_) hs hpl))) hs2) hs2 rfl))
  obtain ⟨a, b, xs, ys, ex, hqx, hqy, hl, h0, q⟩ := q1
  subst ex
  cases r1 with
  | cons r rr =>
    cases rr with
    | cons r' rr =>
      cases rr
      cases r
      cases r'
      obtain ⟨its, rv, p1, _⟩ := I1.tuple hqx
      obtain ⟨its2, rv2, p2, _⟩ := I1.list hqy
      obtain ⟨o1, ho1, _⟩ := id p1
      have lb := p2.lt
      refine zip_begins2 (begins_tuple a its.toArray) (begins_list b its2.toArray) p1 p2.isList fun h' hz hTI hTO h1 h2 hsz hk => args_nil ?_
      have I2 : Inv X pins σ H1 { s1 with heap := h' } := I1.kept (t' := s1.toks) hk
      have fp : ∀ c ∈ [s1.heap.objs.size + 4, s1.heap.objs.size + 3, s1.heap.objs.size, s1.heap.objs.size + 1], FpOk X pins H1 c := fun c hcm => by
        have e' : c = s1.heap.objs.size + 4 ∨ c = s1.heap.objs.size + 3 ∨ c = s1.heap.objs.size ∨ c = s1.heap.objs.size + 1 := by simpa using hcm
        have hle : s1.heap.objs.size ≤ c := by omega
        exact I1.fpOk hle (I1.hok.fresh hle)
      refine call_tuple_zipL (I1.ok.hd hc) (PySem.W.ktu_apart s1.heap.objs.size a b (Heap.lt_size ho1) lb) hl h0 I2 hqx hqy fp hz hTI ⟨_, _, hTO⟩ ⟨_, h1, rfl, rfl⟩ ⟨_, h2, rfl, rfl⟩ fun s' H' us l J1 J2 J3 J4 => ?_
      have hz' : us.length ≤ sizeLine := by
        obtain ⟨_, _, _, q'⟩ := I1.tuple hqx
        rw [J4.1]
        exact q'
      refine ⟨.ref s'.heap.objs.size, upd H' s'.heap.objs.size (.tup us), J1.laid (t' := s'.toks) (fun c o e => Heap.get?_push_of_some _ e) (Nat.le_refl _) (show ObjOk X.prog X.w _ _ _ (.tup us) from ⟨hz', l, J3, IsTup.new _ _⟩), rfl, q _ _ _ J2 J4 (J1.hok.fresh (Nat.le_refl _))⟩
end
end Cm

namespace K04
open PySem L2 Cm
def spPRec (K : PySem.W.Frag) : Sp := fun vs H Q _ => ∃ (v : V) (l an : Addr) (us : List V) (xs anew : List Str) (ps qs : List Tr), vs = [v, .ref l, .ref an] ∧ Dp K H v (Tr.mk (.bind "rec" xs) ps).enc ∧ (Tr.mk (.bind "rec" xs) ps).ok ∧
  H l = some (.lst us) ∧ DpAll K H us (Tr.encL qs) ∧ qs.length = ps.length ∧ SqT K H an (anew.map V.str) ∧ anew.length ≤ 10 ∧ 0 < xs.length ∧
  ∀ (r : V) (H' : Hp), Same H H' → Dp K H' r (recP xs anew qs).enc → Q r H'
theorem range_rows {α : Type} (f : α → PyData) (p : α → Bool) (l : List α) : (List.range l.length).filterMap (fun i => (l[i]?).bind fun x => if p x = true then some (f x) else none) = (l.filter p).map f := by
  induction l with
  | nil => rfl
  | cons a l ih =>
    rw [List.length_cons, List.range_succ_eq_map, List.filterMap_cons, List.filter_cons, List.filterMap_map]
    by_cases z : p a = true
    · simp only [List.getElem?_cons_zero, Option.bind_some, z, if_true]
      exact congrArg _ ih
    · simp only [List.getElem?_cons_zero, Option.bind_some, if_neg z]
      exact ih
theorem dp_row {K : PySem.W.Frag} {H : Hp} {v : V} {x : Str} {d : PyData} (h : Dp K H v (.tuple [.str x, d])) : ∃ t u, v = .ref t ∧ SqT K H t [.str x, u] ∧ Dp K H u d := by
  cases h with
  | @tup a its ds hs ha =>
    cases ha with
    | cons h1 h2 =>
      cases h1
      cases h2 with
      | cons h1 h2 =>
        cases h2
        exact ⟨a, _, rfl, hs, h1⟩
theorem zip_self {α : Type} : ∀ l : List α, l.zip l = l.map fun x => (x, x)
  | [] => rfl
  | a :: l => by
    show (a, a) :: l.zip l = _
    rw [zip_self l]
    rfl
/-- the rows that are made of names and parts -/
theorem pairs_rows {K : PySem.W.Frag} {H : Hp} {xs : List Str} {ys us : List V} {qs : List Tr} (hl : xs.length ≤ qs.length) (hy : DpAll K H ys (Tr.encL qs)) (p : Pairs H (xs.map V.str) ys us (xs.map V.str).length) : DpAll K H us ((xs.zip qs).map fun r => PyData.tuple [.str r.1, r.2.enc]) := by
  have zl : (xs.zip qs).length = xs.length := by rw [List.length_zip]; omega
  have key : ∀ (n : Nat) (us : List V) (rs : List (Str × Tr)), us.length = n → rs.length = n → (∀ j, j < n → ∃ v r, us[j]? = some v ∧ rs[j]? = some r ∧ Dp K H v (.tuple [.str r.1, r.2.enc])) → DpAll K H us (rs.map fun r => PyData.tuple [.str r.1, r.2.enc]) := by
    intro n
    induction n with
    | zero =>
      intro us rs h1 h2 _
      rw [List.length_eq_zero_iff.mp h1, List.length_eq_zero_iff.mp h2]
      exact .nil
    | succ n ih =>
      intro us rs h1 h2 h3
      match us, rs, h1, h2 with
      | u :: us, r :: rs, h1, h2 =>
        obtain ⟨v, r', e1, e2, d⟩ := h3 0 (by omega)
        cases e1
        cases e2
        exact .cons d (ih us rs (Nat.succ.inj h1) (Nat.succ.inj h2) fun j hj => h3 (j + 1) (by omega))
  rw [List.length_map] at p
  refine key xs.length us (xs.zip qs) p.1 zl fun j hj => ?_
  obtain ⟨T, x, y, e1, e2, e3, e4⟩ := p.2 j hj
  obtain ⟨s, es, rfl⟩ := map_at e2
  obtain ⟨d, g1, g2⟩ := DpAll.atV hy e3
  rw [encL_map] at g1
  obtain ⟨t, et, rfl⟩ := map_at g1
  exact ⟨_, (s, t), e1, List.getElem?_zip_eq_some.mpr ⟨es, et⟩, .tup (.inl (.inl e4)) (.cons (.str _) (.cons g2 .nil))⟩
theorem enc_bind (w : Str) (xs : List Str) (ds : List Tr) (z : List Tr) (h : ds.length = xs.length) : (Tr.mk (.bind w xs) (ds ++ z)).enc = .tuple (.str w :: .tuple ((xs.zip ds).map fun r => PyData.tuple [.str r.1, r.2.enc]) :: z.map Tr.enc) := by
  show PyData.tuple (.str w :: .tuple ((xs.zip (Tr.encL (ds ++ z))).map rowD) :: (Tr.encL (ds ++ z)).drop xs.length) = _
  rw [encL_map, List.map_append, List.drop_append_of_le_length (by rw [List.length_map]; omega), List.drop_of_length_le (by rw [List.length_map]; omega), List.nil_append]
  have e : ∀ (xs : List Str) (ds : List Tr) (w : List PyData), ds.length = xs.length → (xs.zip (ds.map Tr.enc ++ w)).map rowD = (xs.zip ds).map fun r => PyData.tuple [.str r.1, r.2.enc] := by
    intro xs
    induction xs with
    | nil => intro ds w h; rfl
    | cons x xs ih =>
      intro ds w h
      cases ds with
      | nil => cases h
      | cons d ds => exact congrArg (List.cons _) (ih ds w (Nat.succ.inj h))
  rw [e xs ds _ h]
section
variable {P : Program} {w : World} {K : PySem.W.Frag} {mg : Str → Option Value} {base : Heap}
abbrev s_p_plain_rec : Stmt := top 11
abbrev N_p_plain_rec : List Str := ["tree", "parts", "anew", "names", "rows", "fills", "name", "side", "inner", "others", "row"]
theorem sc_p_plain_rec : FnScope N_p_plain_rec ["tree", "parts", "anew"] (defScope s_p_plain_rec) := ⟨rfl, rfl, rfl, by decide +kernel, rfl, by decide +kernel, by decide +kernel⟩
theorem ok_plain_rec (T : Txt mg) (c_p_filled : Cl P w K mg base 1 "_filled" (spFilled K)) (c_p_names_bound : Cl P w K mg base 2 "names_bound" (spBound K)) (c_p_pair_of : Cl P w K mg base 1 "_pair_of" (spPairOf K)) (D : At K mg "_plain_rec" s_p_plain_rec ["tree", "parts", "anew"]) : Cl P w K mg base 3 "_plain_rec" (spPRec K) := by
  refine cl_of (k := 2) D sc_p_plain_rec (fun vs H Q E h => ?_) fun f cdv A outer s H vs Q E hr h => ?_
  · obtain ⟨v, l, an, us, xs, anew, ps, qs, rfl, _⟩ := h
    rfl
  · obtain ⟨v, l, an, us, xs, anew, ps, qs, rfl, hd, o, hl, hus, hq, han, hal, hx0, k⟩ := h
    obtain ⟨o1, o2, o3⟩ := ok_mk' o
    have hpl : ps.length = xs.length + 1 := o1.1
    have fle : flatDs (Tr.encL ps) = true := flat_encL ps
    refine ⟨_, (pss_cons (ps_set (i := 3) sc_p_plain_rec.nd rfl (Or.inl rfl) (pe_ix ix_tup (pe_c c_p_names_bound hr (by decide) (by rfl) (pa_cons (pv 0) pa_nil)) (pe_un un_neg pe_int) (fun _ _ => rfl)))
      (pss_cons (ps_set (i := 4) sc_p_plain_rec.nd rfl (Or.inl rfl) (pe_tupZipL rfl (by rfl) T.tuple (by rfl) T.zip (pa_cons (pv 3) (pa_cons (pv 1) pa_nil))))
      (pss_cons (ps_setLc (i := 5) (own := [("name", 6), ("side", 7)]) (g := gTup K 2 (gCons (gName 6) (gCons (gName 7) gNil))) rfl sc_p_plain_rec.nd rfl rfl (sw_true rfl rfl rfl (by decide +kernel)) (pi_tup (pv 4)) (blkOk_by (N := N_p_plain_rec) (sc := defScope s_p_plain_rec) (by decide +kernel))
      (fun _ _ _ _ _ => (pg_tup rfl (pgs_cons (pg_name (i := 6) sc_p_plain_rec.nd rfl (Or.inl rfl)) (pgs_cons (pg_name (i := 7) sc_p_plain_rec.nd rfl (Or.inl rfl)) pgs_nil))))
      (fun _ _ _ _ _ => (pts_one (pt_cmpR (ko_in (K := K)) (pv 6) (pv 2) (by rfl))))
      (fun _ _ _ _ _ => (pe_c c_p_filled hr (by decide) (by rfl) (pa_cons (pv 6) (pa_cons (pv 7) pa_nil)))))
      (pss_cons (ps_set (i := 8) sc_p_plain_rec.nd rfl (Or.inl rfl) (pe_tup (pa_cons pe_str (pa_cons (pe_op op_catA (pe_tupleOf (by rfl) T.tuple (pv 5)) (pe_tup (pa_cons (pe_ix ix_list (pv 1) (pe_un un_neg pe_int) (fun _ _ => rfl)) pa_nil))) pa_nil))))
      (pss_cons (ps_set (i := 9) sc_p_plain_rec.nd rfl (Or.inl rfl) (pe_tupleOf (by rfl) T.tuple (pe_lc (own := [("row", 10)]) rfl sc_p_plain_rec.nd (pi_tup (pv 4)) (blkOk_by (N := N_p_plain_rec) (sc := defScope s_p_plain_rec) (by decide +kernel))
      (fun _ _ _ _ _ => (pg_name (i := 10) sc_p_plain_rec.nd rfl (Or.inl rfl)))
      (fun _ _ _ _ _ => (pts_one (pt_cmpR (ko_notIn (K := K)) (pe_ix (kx_tup (K := K)) (pv 10) pe_int (fun _ _ => rfl)) (pv 2) (by rfl))))
      (fun _ _ _ _ _ => (pv 10)))))
      (pss_mid (ps_if (pt_truth (pv 9) (by intro _; rfl))
        (pss_one (ps_set (i := 8) sc_p_plain_rec.nd rfl (Or.inl rfl) (pe_tup (pa_cons pe_str (pa_cons (pv 9) (pa_cons (pv 8) pa_nil))))))
        pss_nil)
      (pss_one (ps_ret (pe_tup (pa_cons pe_str (pa_cons (pe_tupleOf (by rfl) T.tuple (pe_lc (own := [("name", 6)]) rfl sc_p_plain_rec.nd (pi_tup (pv 2)) (blkOk_by (N := N_p_plain_rec) (sc := defScope s_p_plain_rec) (by decide +kernel))
      (fun _ _ _ _ _ => (pg_name (i := 6) sc_p_plain_rec.nd rfl (Or.inl rfl)))
      (fun _ _ _ _ _ => pts_nil)
      (fun _ _ _ _ _ => (pe_tup (pa_cons (pv 6) (pa_cons (pe_c c_p_pair_of hr (by decide) (by rfl) (pa_cons (pe_tup (pa_cons pe_str pa_nil)) pa_nil)) pa_nil)))))) (pa_cons (pv 8) pa_nil)))))))))))), ?_⟩
    refine ⟨_, rfl, v, .bind "rec" xs, Tr.encL ps, rfl, hd, by rw [encL_len]; exact o1, fle, by rw [encL_len]; omega, fun t2 us2 H1 s1 ht2 hus2 => ?_⟩
    rw [encL_len] at hus2
    have hul2 : us2.length = ps.length := by
      have := DpAll.len hus2
      rw [this]
      unfold bnds
      rw [List.length_map, List.length_range]
    obtain ⟨ul, eul, dul⟩ := DpAll.at hus2 (under_at (h := .bind "rec" xs) (n := ps.length) (i := xs.length) (by omega))
    have eh : under (.bind "rec" xs) ps.length xs.length = xs := by
      unfold under
      rw [if_neg (fun z => by omega)]
      rfl
    rw [eh] at dul
    obtain ⟨ql, rfl, hql⟩ := encs_inv dul
    have elast : us2 = us2.take xs.length ++ [V.ref ql] := by
      have e1 := take_one eul
      rw [← e1, List.take_of_length_le (by omega)]
    have hlast : atI us2 (-1) = some (V.ref ql) := by
      rw [elast]
      exact atI_last _ _
    refine ⟨_, rfl, t2, _, _, _, rfl, rfl, ht2, hlast, ?_⟩
    have hl1 := s1 _ _ hl
    have hus1 := dps_same s1 _ _ hus
    have hul : us.length = qs.length := by have := DpAll.len hus; rwa [encL_len] at this
    refine ⟨_, rfl, _, rfl, ql, l, _, us, rfl, hql, .inl (.inl hl1), by rw [List.length_map]; omega, by rw [List.length_map]; exact hx0, fun H2 rs rt s2 hp hrt => ?_⟩
    have hrows := pairs_rows (by omega) (dps_same s2 _ _ hus1) hp
    have s3 := same_new (o := .tup rs) hrt
    have hrows3 := dps_same s3 _ _ hrows
    have ert : upd H2 rt (.tup rs) rt = some (.tup rs) := upd_same
    have S3 := (s1.trans s2).trans s3
    generalize upd H2 rt (.tup rs) = H3 at *
    have zl : (xs.zip qs).length = xs.length := by rw [List.length_zip]; omega
    have lrs : rs.length = (xs.zip qs).length := by have := DpAll.len hrows3; rwa [List.length_map] at this
    have han3 := sqt_same S3 han
    have hl3 := S3 _ _ hl
    have hus3 := dps_same S3 _ _ hus
    let rows := xs.zip qs
    have frow : ∀ r : Str × Tr, flatD (.tuple [.str r.1, r.2.enc]) = true := fun r => by simp [flatD, flatDs, flat_enc]
    refine ⟨_, rfl, rt, rfl, ⟨rs, .inl (.inl ert)⟩, fun D1 hD1 => ?_⟩
    refine lc_data (K := K) (walk_tup (K := K) (a := rt) (xs := rs)) (fun i => (rows[i]?).bind fun r => if decide (r.1 ∈ anew) = true then some (fillT r.1 r.2).enc else none) hD1 (by have := o2; omega) (fun H' s => .inl (.inl (s _ _ ert))) (fun i _ d e => ?_) ?_ ?_
    · obtain ⟨b, _, e⟩ := Option.bind_eq_some_iff.mp e
      split at e
      · cases e; exact flat_enc _
      · cases e
    · rintro i x0 H4' H4 hi s4 ⟨rfl, ex⟩ Q1 Q0 q1 q0
      obtain ⟨d, g1, g2⟩ := DpAll.atV (dps_same s4 _ _ hrows3) ex
      obtain ⟨r, er, rfl⟩ := map_at g1
      obtain ⟨t, u, rfl, ht, hu⟩ := dp_row g2
      have er' : rows[i]? = some r := er
      refine ⟨t, _, rfl, ht, rfl, _, _, rfl, _, _, rfl, rfl, rfl, _, rfl, _, rfl, an, _, rfl, .inr (sqt_same s4 han3), rfl, flat_strV _, _, rfl, ?_⟩
      show if inV (.str r.1) (anew.map V.str) = true then _ else _
      rw [in_words]
      by_cases z : r.1 ∈ anew
      · rw [decide_eq_true z]
        refine iteT ⟨_, rfl, _, rfl, r.1, u, r.2, rfl, hu, fun r' H' s' dr => q1 _ _ (fillT r.1 r.2).enc ?_ s' dr⟩
        rw [er']
        show (if decide (r.1 ∈ anew) = true then some (fillT r.1 r.2).enc else none) = _
        rw [decide_eq_true z]
        rfl
      · rw [decide_eq_false z]
        refine iteF (q0 _ ?_ (Same.refl _))
        rw [er']
        show (if decide (r.1 ∈ anew) = true then some (fillT r.1 r.2).enc else none) = _
        rw [decide_eq_false z]
        rfl
    · intro H4 fl s4 hfl dfl
      rw [lrs, range_rows (fun r : Str × Tr => (fillT r.1 r.2).enc) (fun r => decide (r.1 ∈ anew))] at dfl
      have lfl := DpAll.len dfl
      have lfl2 : fl.length ≤ 20 := by
        rw [lfl, List.length_map]
        have := List.length_filter_le (fun r : Str × Tr => decide (r.1 ∈ anew)) rows
        have : rows.length = xs.length := zl
        omega
      obtain ⟨qL, eqL⟩ : ∃ q, qs[xs.length]? = some q := ⟨qs[xs.length]'(by omega), List.getElem?_eq_getElem _⟩
      have edrop : qs.drop xs.length = [qL] := by
        obtain ⟨hx, e⟩ := List.getElem?_eq_some_iff.mp eqL
        rw [List.drop_eq_getElem_cons hx, e, List.drop_of_length_le (by omega)]
      have hus4 := dps_same s4 _ _ hus3
      obtain ⟨uL, euL, duL⟩ := DpAll.at hus4 (i := xs.length) (d := qL.enc) (by rw [encL_map, List.getElem?_map, eqL]; rfl)
      have elast2 : us = us.take xs.length ++ [uL] := by
        have e1 := take_one euL
        rw [← e1, List.take_of_length_le (by omega)]
      have hlast2 : atI us (-1) = some uL := by
        rw [elast2]
        exact atI_last _ _
      refine ⟨_, rfl, .inl ⟨D1, fl, rfl, .inl (.inl hfl), fun t5 ht5 => ?_⟩⟩
      have s5 := same_new (o := .tup fl) ht5
      refine ⟨_, rfl, _, rfl, l, _, _, _, rfl, rfl, .inl (.inl (s5 _ _ (s4 _ _ hl3))), hlast2, by show 1 ≤ sizeLine; decide, fun t6 ht6 => ?_⟩
      have s6 := same_new (o := .tup [uL]) ht6
      refine cat_any (.inl (.inl (s6 _ _ upd_same))) (.inl (.inl upd_same)) (Nat.le_trans (show fl.length + 1 ≤ 1000 by omega) (by decide)) fun t7 H7 s7 ht7 => ?_
      have s47 := (s5.trans s6).trans s7
      refine ⟨by show 2 ≤ sizeLine; decide, fun t8 ht8 => ?_⟩
      have s8 := same_new (o := .tup [V.str "do", V.ref t7]) ht8
      have s48 := s47.trans s8
      let fills := (rows.filter fun r => decide (r.1 ∈ anew)).map fun r => fillT r.1 r.2
      let inner := Tr.mk .doo (fills ++ qs.drop xs.length)
      have dfl' : DpAll K H4 fl (Tr.encL fills) := by
        rw [encL_map, List.map_map]
        exact dfl
      have din : Dp K (upd H7 t8 (.tup [V.str "do", V.ref t7])) (.ref t8) inner.enc := by
        refine .tup (.inl (.inl upd_same)) (.cons (.str _) (.cons (.tup (sqt_same s8 ht7) ?_) .nil))
        rw [edrop, encL_map, List.map_append, ← encL_map]
        exact DpAll.app (dps_same s48 _ _ dfl') (.cons (dp_same s48 _ _ duL) .nil)
      have S8 := (S3.trans s4).trans s48
      have ert8 := s48 _ _ (s4 _ _ ert)
      have hrows8 := dps_same (s4.trans s48) _ _ hrows3
      have han8 := sqt_same (s4.trans s48) han3
      generalize upd H7 t8 (.tup [V.str "do", V.ref t7]) = H8 at *
      refine ⟨_, rfl, rt, rfl, ⟨rs, .inl (.inl ert8)⟩, fun D2 hD2 => ?_⟩
      refine lc_data (K := K) (walk_tup (K := K) (a := rt) (xs := rs)) (fun i => (rows[i]?).bind fun r => if (!decide (r.1 ∈ anew)) = true then some (PyData.tuple [.str r.1, r.2.enc]) else none) hD2 (by omega) (fun H' s => .inl (.inl (s _ _ ert8))) (fun i _ d e => ?_) ?_ ?_
      · obtain ⟨b, _, e⟩ := Option.bind_eq_some_iff.mp e
        split at e
        · cases e; exact frow _
        · cases e
      · rintro i x0 H9' H9 hi s9 ⟨rfl, ex⟩ Q1 Q0 q1 q0
        obtain ⟨d, g1, g2⟩ := DpAll.atV (dps_same s9 _ _ hrows8) ex
        obtain ⟨r, er, rfl⟩ := map_at g1
        obtain ⟨t, u, rfl, ht, hu⟩ := dp_row g2
        have er' : rows[i]? = some r := er
        refine ⟨rfl, _, rfl, t, _, _, _, rfl, rfl, ht, atI_nat (j := 0) rfl, _, rfl, an, _, rfl, .inr (sqt_same s9 han8), rfl, flat_strV _, _, rfl, ?_⟩
        show if (!inV (.str r.1) (anew.map V.str)) = true then _ else _
        rw [in_words]
        by_cases z : r.1 ∈ anew
        · rw [decide_eq_true z]
          refine iteF (q0 _ ?_ (Same.refl _))
          rw [er']
          show (if (!decide (r.1 ∈ anew)) = true then some (PyData.tuple [.str r.1, r.2.enc]) else none) = _
          rw [decide_eq_true z]
          rfl
        · rw [decide_eq_false z]
          refine iteT ⟨_, rfl, q1 _ _ (PyData.tuple [.str r.1, r.2.enc]) ?_ (Same.refl _) g2⟩
          rw [er']
          show (if (!decide (r.1 ∈ anew)) = true then some (PyData.tuple [.str r.1, r.2.enc]) else none) = _
          rw [decide_eq_false z]
          rfl
      · intro H9 ot s9 hot dot
        rw [lrs, range_rows (fun r : Str × Tr => PyData.tuple [.str r.1, r.2.enc]) (fun r => !decide (r.1 ∈ anew))] at dot
        refine .inl ⟨D2, ot, rfl, .inl (.inl hot), fun t10 ht10 => ?_⟩
        have s10 := same_new (o := .tup ot) ht10
        have e10 : upd H9 t10 (.tup ot) t10 = some (.tup ot) := upd_same
        have dot10 := dps_same s10 _ _ dot
        have S10 := (S8.trans s9).trans s10
        have din10 := dp_same (s9.trans s10) _ _ din
        have han10 := sqt_same (s9.trans s10) han8
        generalize upd H9 t10 (.tup ot) = H10 at *
        let oth := rows.filter fun r => !decide (r.1 ∈ anew)
        let inner2 := if oth = [] then inner else Tr.mk (.bind "rec" (oth.map (·.1))) (oth.map (·.2) ++ [inner])
        have eemp : ot.isEmpty = oth.isEmpty := by
          have := DpAll.len dot10
          rw [List.length_map] at this
          have h2 : ot.length = oth.length := this
          cases hc : oth with
          | nil => rw [hc] at h2; rw [List.length_eq_zero_iff.mp h2]; rfl
          | cons a l =>
            rw [hc] at h2
            cases ot with
            | nil => cases h2
            | cons b m => rfl
        refine ⟨fun σ' H' => ∃ vi : V, σ' = [some v, some (.ref l), some (.ref an), some (.ref ql), some (.ref rt), some (.ref D1), none, none, some vi, some (.ref t10), none] ∧ Same H10 H' ∧ Dp K H' vi inner2.enc, ?_, ?_⟩
        · refine ⟨_, rfl, _, .inr (.inl ⟨_, .inl (.inl e10), rfl⟩), ?_⟩
          rw [eemp]
          cases hc : oth with
          | nil =>
            refine iteF ⟨_, rfl, Same.refl _, ?_⟩
            show Dp K H10 _ (if oth = [] then inner else _).enc
            rw [if_pos hc]
            exact din10
          | cons a m =>
            refine iteT ⟨_, rfl, _, rfl, by show 3 ≤ sizeLine; decide, fun t11 ht11 => ?_⟩
            have s11 := same_new (o := .tup [V.str "rec", V.ref t10, V.ref t8]) ht11
            refine ⟨_, rfl, s11, ?_⟩
            show Dp K _ _ (if oth = [] then inner else _).enc
            rw [if_neg (by rw [hc]; exact fun z => by cases z), enc_bind _ _ _ _ (by rw [List.length_map, List.length_map])]
            refine .tup (.inl (.inl upd_same)) (.cons (.str _) (.cons (.tup (.inl (.inl (s11 _ _ e10))) ?_) (.cons (dp_same s11 _ _ din10) .nil)))
            rw [List.zip_map', List.map_map]
            exact dps_same s11 _ _ dot10
        · rintro σ1 H11 ⟨vi, rfl, s11, dvi⟩
          have han11 := sqt_same s11 han10
          refine ⟨_, rfl, an, rfl, ⟨_, han11⟩, fun D3 hD3 => ?_⟩
          refine lc_data (K := K) (walk_tup (K := K) (a := an) (xs := anew.map V.str)) (fun i => (anew[i]?).map fun x => PyData.tuple [.str x, (pairT noneT).enc]) hD3 (by rw [List.length_map]; omega) (fun H' s => sqt_same s han11) (fun i _ d e => ?_) ?_ ?_
          · obtain ⟨x, _, rfl⟩ := Option.map_eq_some_iff.mp e
            simp [flatD, flatDs, flat_enc]
          · rintro i x0 H12' H12 hi s12 ⟨rfl, ex⟩ Q1 Q0 q1 q0
            obtain ⟨y, ey, rfl⟩ := map_at ex
            refine ⟨rfl, iteT (B := Q0 H12) ⟨_, rfl, by show 1 ≤ sizeLine; decide, fun p1 hp1 => ?_⟩⟩
            have s13 := same_new (o := .tup [V.str "none"]) hp1
            refine ⟨.ref p1, noneT, rfl, .tup (.inl (.inl upd_same)) (.cons (.str _) .nil), fun r H14 s14 dr => ⟨by show 2 ≤ sizeLine; decide, fun p2 hp2 => ?_⟩⟩
            have s15 := same_new (o := .tup [V.str y, r]) hp2
            exact q1 _ _ (PyData.tuple [.str y, (pairT noneT).enc]) (by rw [ey]; rfl) ((s13.trans s14).trans s15) (.tup (.inl (.inl upd_same)) (.cons (.str _) (.cons (dp_same s15 _ _ dr) .nil)))
          · intro H12 acc s12 hacc ha
            rw [List.length_map, Cm.range_map (fun x => PyData.tuple [.str x, (pairT noneT).enc])] at ha
            refine .inl ⟨D3, acc, rfl, .inl (.inl hacc), fun t13 ht13 => ?_⟩
            have s13 := same_new (o := .tup acc) ht13
            refine ⟨_, rfl, by show 3 ≤ sizeLine; decide, fun t14 ht14 => ?_⟩
            have s14 := same_new (o := .tup [V.str "let", V.ref t13, vi]) ht14
            have s124 := s13.trans s14
            refine k _ _ (((S10.trans s11).trans s12).trans s124) ?_
            show Dp K _ _ (Tr.mk (.bind "let" anew) ((anew.map fun _ => pairT noneT) ++ [inner2])).enc
            rw [enc_bind _ _ _ _ (by rw [List.length_map])]
            refine .tup (.inl (.inl upd_same)) (.cons (.str _) (.cons (.tup (.inl (.inl (s14 _ _ upd_same))) ?_) (.cons (dp_same (s12.trans s124) _ _ dvi) .nil)))
            have ez : ((anew.zip (anew.map fun _ => pairT noneT)).map fun r => PyData.tuple [.str r.1, r.2.enc]) = anew.map fun x => PyData.tuple [.str x, (pairT noneT).enc] := by
              rw [List.zip_map_right, List.map_map]
              have := zip_self anew
              rw [this, List.map_map]
              rfl
            rw [ez]
            exact dps_same s124 _ _ ha
end
end K04

namespace K04
open PySem L2 Cm
def isSet (h : Hd) : Bool := kd h == 3 && !isTak h
def isRec : Hd → Bool
  | .bind w _ => decide (w = "rec")
  | _ => false
theorem eq_rec {h : Hd} {n : Nat} (o : hok h n) : decide (V.str (wd h) = V.str "rec") = isRec h := by
  have other : kd h ≠ 5 → decide (wd h = "rec") = false := fun q => by
    have key : ∀ c < 10, c ≠ 5 → ∀ w ∈ Cm.wordsOf c, decide (w = ("rec" : Str)) = false := by decide +kernel
    exact key _ (wd_mem o).1 q _ (wd_mem o).2
  rw [decS]
  cases h with
  | bind w x => rfl
  | num i => exact other (Nat.ne_of_beq_eq_false rfl)
  | name i => exact other (Nat.ne_of_beq_eq_false rfl)
  | lit i => exact other (Nat.ne_of_beq_eq_false rfl)
  | fn i => exact other (Nat.ne_of_beq_eq_false rfl)
  | one i _ => exact other (Nat.ne_of_beq_eq_false rfl)
  | doo => exact other (Nat.ne_of_beq_eq_false rfl)
  | call => exact other (Nat.ne_of_beq_eq_false rfl)
  | op i => exact other (Nat.ne_of_beq_eq_false rfl)
  | plain i => exact other (Nat.ne_of_beq_eq_false rfl)
theorem shape_gen {hs : Str → Bool} {anew : List Str} {qs : List Tr} {h : Hd} (n1 : isName h = false) (n2 : isSet h = false) : shapeP hs anew qs h = if isRec h = true ∧ anew ≠ [] then recP (held h) anew qs else wrapL anew h qs := by
  cases h with
  | name x => cases n1
  | one w x =>
    have : ¬ w = "set" := fun e => by
      have z : (true && !(!decide (w = "set"))) = false := n2
      rw [decide_eq_true e] at z
      cases z
    show (if w = "set" then _ else _) = _
    rw [if_neg this, if_neg (fun z => Bool.false_ne_true z.1)]
  | bind w xs =>
    show (if w = "rec" ∧ anew ≠ [] then recP xs anew qs else wrapL anew (.bind w xs) qs) = if decide (w = "rec") = true ∧ anew ≠ [] then recP xs anew qs else wrapL anew (.bind w xs) qs
    by_cases z : w = "rec" <;> simp [z]
  | num i => exact (if_neg (fun z => Bool.false_ne_true z.1)).symm
  | lit i => exact (if_neg (fun z => Bool.false_ne_true z.1)).symm
  | fn i => exact (if_neg (fun z => Bool.false_ne_true z.1)).symm
  | doo => exact (if_neg (fun z => Bool.false_ne_true z.1)).symm
  | call => exact (if_neg (fun z => Bool.false_ne_true z.1)).symm
  | op i => exact (if_neg (fun z => Bool.false_ne_true z.1)).symm
  | plain i => exact (if_neg (fun z => Bool.false_ne_true z.1)).symm
theorem ixN_last {n : Nat} : ixN (n + 1) (-1) = some n := by
  unfold ixN
  rw [if_neg (by omega), if_pos (by omega)]
  congr 1
  omega
theorem set_last {α : Type} {v : α} : ∀ {xs : List α} {m : Nat}, xs.length = m + 1 → xs.set m v = xs.take m ++ [v]
  | x :: xs, 0, h => by
    have : xs = [] := List.length_eq_zero_iff.mp (Nat.succ.inj h)
    subst this
    rfl
  | x :: xs, m + 1, h => by
    show x :: xs.set m v = x :: (xs.take m ++ [v])
    rw [set_last (Nat.succ.inj h)]
abbrev inB (l : List Str) : Str → Bool := fun x => decide (x ∈ l)
theorem scope_eq (held anew : List Str) (h : Hd) (n i : Nat) : inB (held.filter (fun x => !decide (x ∈ under h n i)) ++ anew.filter (fun x => decide (x ∈ under h n i))) = scopeP (inB held) h n anew i := by
  funext x
  unfold scopeP
  show decide (x ∈ _) = ((decide (x ∈ held) && !decide (x ∈ under h n i)) || (decide (x ∈ anew) && decide (x ∈ under h n i)))
  rw [Bool.eq_iff_iff, decide_eq_true_eq, List.mem_append, List.mem_filter, List.mem_filter]
  simp
def spPlain (K : PySem.W.Frag) (n : Nat) : Sp := fun vs H Q _ => ∃ (v : V) (hb : Addr) (t : Tr) (hl : List Str), vs = [v, .ref hb] ∧ Dp K H v t.enc ∧ t.ok ∧ t.nw ∧ t.dep ≤ n ∧ n ≤ 70 ∧ t.size ≤ 1000000 ∧ SqT K H hb (hl.map V.str) ∧ hl.length + 10 * n ≤ 10000 ∧
  ∀ (r : V) (H' : Hp), Same H H' → Dp K H' r (t.plain (inB hl)).enc → Q r H'
section
variable {P : Program} {w : World} {K : PySem.W.Frag} {mg : Str → Option Value} {base : Heap}
abbrev s_p_plain : Stmt := top 9
abbrev N_p_plain : List Str := ["tree", "held", "word", "anew", "parts", "part", "names", "kept", "name"]
theorem sc_p_plain : FnScope N_p_plain ["tree", "held"] (defScope s_p_plain) := ⟨rfl, rfl, rfl, by decide +kernel, rfl, by decide +kernel, by decide +kernel⟩
theorem ok_plain (T : Txt mg) (c_p_parts_of : Cl P w K mg base 1 "parts_of" (spParts K)) (c_p_names_bound : Cl P w K mg base 2 "names_bound" (spBound K)) (c_p_with_parts : Cl P w K mg base 1 "with_parts" (spWith K)) (c_p_held_names : Cl P w K mg base 75 "_held_names" (spHeldN K))
    (c_p_plain_rec : Cl P w K mg base 3 "_plain_rec" (spPRec K)) (c_p_pair_of : Cl P w K mg base 1 "_pair_of" (spPairOf K)) (c_p_filled : Cl P w K mg base 1 "_filled" (spFilled K)) (D : At K mg "_plain" s_p_plain ["tree", "held"]) : ∀ n, Cl P w K mg base (n + 76) "_plain" (spPlain K n) := by
  intro n
  induction n with
  | zero =>
    refine cl_of (k := 75) D sc_p_plain (fun vs H Q E h => ?_) fun f cdv A outer s H vs Q E hr h => ?_
    · obtain ⟨v, hb, t, hl, rfl, _⟩ := h
      rfl
    · obtain ⟨v, hb, t, hl, _, _, _, _, z, _⟩ := h
      cases t with
      | mk hd ps => exact absurd z (by show ¬ (Tr.deps ps + 1 ≤ 0); omega)
  | succ n ih =>
    refine cl_of (k := n + 76) D sc_p_plain (fun vs H Q E h => ?_) fun f cdv A outer s H vs Q E hr h => ?_
    · obtain ⟨v, hb, t, hl, rfl, _⟩ := h
      rfl
    · obtain ⟨v, hb, t, hl, rfl, hd, o, nw, hdep, hn70, hsz, hhb, hhl, k⟩ := h
      cases t with
      | mk h ps =>
      obtain ⟨o1, o2, o3⟩ := ok_mk' o
      have nw' : nwH h ∧ Tr.nws ps := nw
      have n3 := nws_iff.mp nw'.2
      have hsz' : Tr.sizes ps + 1 ≤ 1000000 := hsz
      obtain ⟨a, its, rfl, hs, hx⟩ := view hd
      have hu := hu_of hr
      have fle : flatDs (Tr.encL ps) = true := flat_encL ps
      refine ⟨_, (pss_cons (ps_set (i := 2) sc_p_plain.nd rfl (Or.inl rfl) (pe_ix ix_tup (pv 0) pe_int (fun _ _ => rfl)))
        (pss_cons (ps_if (pt_cmpR op_eq (pv 2) pe_str (nomark _))
          (pss_one (ps_ret (pe_ifExp (pt_cmpR op_in_seq (pe_ix ix_tup (pv 0) pe_int (fun _ _ => rfl)) (pv 1) (by rfl)) (pe_tup (pa_cons pe_str (pa_cons pe_str (pa_cons (pe_tup (pa_cons (pv 0) pa_nil)) pa_nil)))) (pv 0))))
          pss_nil)
        (pss_cons (ps_if (pt_cmpR op_eq (pv 2) pe_str (nomark _))
          (pss_one (ps_ret (pe_c c_p_filled hr (by omega) (by rfl) (pa_cons (pe_ix ix_tup (pv 0) pe_int (fun _ _ => rfl)) (pa_cons (pe_c ih hr (by omega) (by rfl) (pa_cons (pe_ix ix_tup (pv 0) pe_int (fun _ _ => rfl)) (pa_cons (pv 1) pa_nil))) pa_nil)))))
          pss_nil)
        (pss_cons (ps_set (i := 3) sc_p_plain.nd rfl (Or.inl rfl) (pe_c c_p_held_names hr (by omega) (by rfl) (pa_cons (pv 0) pa_nil)))
        (pss_cons (ps_set (i := 4) sc_p_plain.nd rfl (Or.inl rfl) (pe_lst pa_nil))
        (pss_mid (ps_for PassesOwn.never rfl (RZ.pi_zipA (by rfl) T.zip (pa_cons (pe_c c_p_parts_of hr (by omega) (by rfl) (pa_cons (pv 0) pa_nil)) (pa_cons (pe_c c_p_names_bound hr (by omega) (by rfl) (pa_cons (pv 0) pa_nil)) pa_nil))) (pg_tup (by rfl) (pgs_cons (pg_name (i := 5) sc_p_plain.nd rfl (Or.inl rfl)) (pgs_cons (pg_name (i := 6) sc_p_plain.nd rfl (Or.inr rfl)) pgs_nil)))
          (pss_cons (ps_set (i := 7) sc_p_plain.nd rfl (Or.inl rfl) (pe_tupleOf (by rfl) T.tuple (pe_lc (own := [("name", 8)]) rfl sc_p_plain.nd (pi_tup (pv 1)) (blkOk_by (N := N_p_plain) (sc := defScope s_p_plain) (by decide +kernel))
        (fun _ _ _ _ _ => (pg_name (i := 8) sc_p_plain.nd rfl (Or.inl rfl)))
        (fun _ _ _ _ _ => (pts_one (pt_cmpR (ko_notIn (K := K)) (pv 8) (pv 6) (by rfl))))
        (fun _ _ _ _ _ => (pv 8)))))
          (pss_one (ps_expr (pe_bm PySem.F.plainAttrs_list PySem.F.slot_list_append PySem.F.type_list_append mt_append (pv 4) (pa_cons (pe_c ih hr (by omega) (by rfl) (pa_cons (pv 5) (pa_cons (pe_op op_catA (pv 7) (pe_tupleOf (by rfl) T.tuple (pe_lc (own := [("name", 8)]) rfl sc_p_plain.nd (pi_tup (pv 3)) (blkOk_by (N := N_p_plain) (sc := defScope s_p_plain) (by decide +kernel))
        (fun _ _ _ _ _ => (pg_name (i := 8) sc_p_plain.nd rfl (Or.inl rfl)))
        (fun _ _ _ _ _ => (pts_one (pt_cmpR (ko_in (K := K)) (pv 8) (pv 6) (by rfl))))
        (fun _ _ _ _ _ => (pv 8))))) pa_nil))) pa_nil))))))
        (pss_cons (ps_if (pt_not (pt_truth (pv 3) (by intro _; rfl)))
          (pss_one (ps_ret (pe_c c_p_with_parts hr (by omega) (by rfl) (pa_cons (pv 0) (pa_cons (pv 4) pa_nil)))))
          pss_nil)
        (pss_cons (ps_if (pt_cmpR op_eq (pv 2) pe_str (nomark _))
          (pss_one (ps_ret (pe_c c_p_plain_rec hr (by omega) (by rfl) (pa_cons (pv 0) (pa_cons (pv 4) (pa_cons (pv 3) pa_nil))))))
          pss_nil)
        (pss_cons (ps_asg (pe_tup (pa_cons pe_str (pa_cons (pe_tupleOf (by rfl) T.tuple (pe_lc (own := [("name", 8)]) rfl sc_p_plain.nd (pi_tup (pv 3)) (blkOk_by (N := N_p_plain) (sc := defScope s_p_plain) (by decide +kernel))
        (fun _ _ _ _ _ => (pg_name (i := 8) sc_p_plain.nd rfl (Or.inl rfl)))
        (fun _ _ _ _ _ => pts_nil)
        (fun _ _ _ _ _ => (pe_tup (pa_cons (pv 8) (pa_cons (pe_c c_p_pair_of hr (by omega) (by rfl) (pa_cons (pe_tup (pa_cons pe_str (pa_cons (pv 8) pa_nil))) pa_nil)) pa_nil)))))) (pa_cons (pe_ix ix_list (pv 4) (pe_un un_neg pe_int) (fun _ _ => rfl)) pa_nil)))) (pg_sub (pv 4) (pe_un un_neg pe_int) set_list))
        (pss_one (ps_ret (pe_c c_p_with_parts hr (by omega) (by rfl) (pa_cons (pv 0) (pa_cons (pv 4) pa_nil)))))))))))))), ?_⟩
      refine ⟨_, rfl, a, its, _, _, rfl, rfl, hs, hx.head, ?_⟩
      refine ⟨_, rfl, rfl, _, rfl, ?_⟩
      rw [eq_name o1]
      cases en : isName h with
      | true =>
        obtain ⟨x, rfl⟩ : ∃ x, h = .name x := by
          cases h with
          | name x => exact ⟨x, rfl⟩
          | _ => cases en
        have e0 : ps = [] := List.length_eq_zero_iff.mp o1.1
        subst e0
        have hx' : its = [.str "name", .str x] := hx
        subst hx'
        refine iteT ⟨_, rfl, a, _, _, _, rfl, rfl, hs, atI_nat (j := 1) rfl, _, rfl, hb, _, rfl, .inr hhb, rfl, flat_strV _, _, rfl, ?_⟩
        rw [in_words]
        have ep : (Tr.mk (.name x) []).plain (inB hl) = if x ∈ hl then Tr.mk (.op "left") [nameT x] else .mk (.name x) [] := by
          show (if decide (x ∈ hl) = true then _ else _) = _
          by_cases z : x ∈ hl <;> simp [z, Tr.plains]
        rw [ep] at k
        by_cases z : x ∈ hl
        · rw [if_pos z] at k
          rw [decide_eq_true z]
          refine iteT ⟨_, rfl, by show 1 ≤ sizeLine; decide, fun p1 hp1 => ⟨by show 3 ≤ sizeLine; decide, fun p2 hp2 => ?_⟩⟩
          have s1 := same_new (o := .tup [V.ref a]) hp1
          have s2 := same_new (o := .tup [V.str "op", V.str "left", V.ref p1]) hp2
          exact k _ _ (s1.trans s2) (.tup (.inl (.inl upd_same)) (.cons (.str _) (.cons (.str _) (.cons (.tup (.inl (.inl (s2 _ _ upd_same))) (.cons (dp_same (s1.trans s2) _ _ hd) .nil)) .nil))))
        · rw [if_neg z] at k
          rw [decide_eq_false z]
          exact iteF ⟨_, rfl, k _ _ (Same.refl _) hd⟩
      | false =>
      refine iteF ⟨_, rfl, rfl, _, rfl, ?_⟩
      rw [eq_set o1, show (kd h == 3 && !isTak h) = isSet h from rfl]
      cases es : isSet h with
      | true =>
        obtain ⟨x, rfl⟩ : ∃ x, h = .one "set" x := by
          cases h with
          | one w x =>
            have z : (true && !(!decide (w = "set"))) = true := es
            rw [Bool.not_not, Bool.true_and] at z
            exact ⟨x, by rw [of_decide_eq_true z]⟩
          | _ => cases es
        obtain ⟨p, rfl⟩ := one_of (show ps.length = 1 from o1.1)
        obtain ⟨vs, rfl, hvs⟩ := hx
        obtain ⟨pv1, rfl, hpv⟩ := dpAll_one hvs
        have mp : p ∈ [p] := List.mem_singleton.mpr rfl
        have dp := dep_mk.mp hdep p mp
        have szp := sizeMem mp
        have ep : (Tr.mk (.one "set" x) [p]).plain (inB hl) = fillT x (p.plain (inB hl)) := by
          have es : scopeP (inB hl) (.one "set" x) 1 (anewOf (.one "set" x) [p]) 0 = inB hl := by
            funext y
            unfold scopeP under held
            simp
          show shapeP (inB hl) (anewOf (.one "set" x) [p]) [p.plain (scopeP (inB hl) (.one "set" x) 1 (anewOf (.one "set" x) [p]) 0)] (.one "set" x) = _
          rw [es]
          rfl
        rw [ep] at k
        refine iteT ⟨_, rfl, a, _, _, _, rfl, rfl, hs, atI_nat (j := 1) rfl, _, rfl, a, _, _, _, rfl, rfl, hs, atI_nat (j := 2) rfl, _, rfl, pv1, hb, p, hl, rfl, hpv, o3 p mp, n3 p mp, dp, by omega, by omega, hhb, by omega, fun r H1 s1 dr => ?_⟩
        exact ⟨x, r, p.plain (inB hl), rfl, dr, fun r2 H2 s2 dr2 => k _ _ (s1.trans s2) dr2⟩
      | false =>
      refine iteF ⟨_, rfl, .ref a, h, ps, rfl, hd, o, by omega, hsz, fun an H1 s1 han => ?_⟩
      have al := anew_len o1 o2 nw'.1
      refine ⟨by show 0 ≤ sizeLine; decide, fun L hL => ?_⟩
      have s2 := same_new (o := .lst ([] : List V)) hL
      have S2 := s1.trans s2
      have eL : upd H1 L (.lst []) L = some (.lst []) := upd_same
      have han2 := sqt_same s2 han
      have hL0 : H L = none := free_of s1 hL
      generalize upd H1 L (.lst []) = H2 at *
      have hd2 := dp_same S2 _ _ hd
      have hhb2 := sqt_same S2 hhb
      let sc := scopeP (inB hl) h ps.length (anewOf h ps)
      let qs := Tr.plains sc 0 ps
      have lq : qs.length = ps.length := plains_len sc 0 ps
      refine ⟨fun σ' H' => ∃ (v5 v6 v7 : Option V) (acc : List V), σ' = [some (.ref a), some (.ref hb), some (.str (wd h)), some (.ref an), some (.ref L), v5, v6, v7, none] ∧ Kh L H2 H' ∧ H' L = some (.lst acc) ∧ DpAll K H' acc (Tr.encL qs), ?_, ?_⟩
      · refine ⟨_, rfl, .ref a, h, Tr.encL ps, rfl, hd2, by rw [encL_len]; exact o1, fle, by rw [encL_len]; omega, fun t us H3 s3 ht hus => ?_⟩
        refine ⟨_, rfl, .ref a, h, Tr.encL ps, rfl, dp_same s3 _ _ hd2, by rw [encL_len]; exact o1, fle, by rw [encL_len]; omega, fun t2 us2 H4 s4 ht2 hus2 => ?_⟩
        rw [encL_len] at hus2
        have hul := DpAll.len hus
        have hul2 := DpAll.len hus2
        rw [encL_len] at hul
        have hul3 : us2.length = ps.length := by
          rw [hul2]
          unfold bnds
          rw [List.length_map, List.length_range]
        have s34 := s3.trans s4
        have eL4 := s34 _ _ eL
        refine ⟨t, t2, us, us2, rfl, .inr ⟨sqt_same s4 ht, ht2, ?_⟩⟩
        have hus' := dps_same s4 _ _ hus
        have M4 : ∀ x, x = L → ∃ xs, H4 x = some (.lst xs) := fun x e => by subst e; exact ⟨_, eL4⟩
        refine for_it (walk_zipT (xs := us) (ys := us2) (n := ps.length) (by omega)) (fun i σ H' => ∃ (v5 v6 v7 : Option V) (acc : List V), σ = [some (.ref a), some (.ref hb), some (.str (wd h)), some (.ref an), some (.ref L), v5, v6, v7, none] ∧ Kh L H4 H' ∧ H' L = some (.lst acc) ∧ DpAll K H' acc (Tr.encL (qs.take i)))
          ⟨_, _, _, [], rfl, Kp.refl M4, eL4, .nil⟩ (fun i σ H' _ z => ?_) ?_ ?_
        · obtain ⟨_, _, _, _, _, z, _⟩ := z
          exact ⟨z.tup (sqt_same s4 ht), z.tup ht2⟩
        · rintro i x0 σ H5 H6 hi ⟨v5, v6, v7, acc, rfl, k5, eL5, ha5⟩ ⟨T1, x1, x2, rfl, hT, rfl, e1, e2⟩
          have s6 := same_new (o := .tup [x1, x2]) hT
          obtain ⟨d1, g1, g2⟩ := DpAll.atV hus' e1
          obtain ⟨c, ec, rfl⟩ := encL_at' g1
          obtain ⟨d2, g3, g4⟩ := DpAll.atV hus2 e2
          rw [under_at hi] at g3
          cases g3
          have hcm : c ∈ ps := List.mem_of_getElem? ec
          have M5 : ∀ x, x = L → ∃ xs, H5 x = some (.lst xs) := fun x e => by subst e; exact ⟨_, eL5⟩
          have k6 : Kh L H4 (upd H5 T1 (.tup [x1, x2])) := k5.trans (Kp.of_same M5 s6)
          have eL6 := s6 _ _ eL5
          have ha6 := dps_same s6 _ _ ha5
          refine ⟨T1, _, rfl, .inl (.inl upd_same), rfl, _, _, rfl, _, _, rfl, rfl, ?_⟩
          generalize upd H5 T1 (.tup [x1, x2]) = H6 at *
          have dc6 : Dp K H6 x1 c.enc := dp_keep (fun _ _ q => k6.tup q) _ _ (flat_enc c) g2
          obtain ⟨q2, rfl, hq2⟩ := encs_inv (dp_keep (fun _ _ q => k6.tup q) _ _ (flat_strs _) g4)
          have hhb6 := k6.tup (sqt_same s34 hhb2)
          have han6 := k6.tup (sqt_same s34 han2)
          let un := under h ps.length i
          refine ⟨_, rfl, hb, rfl, ⟨_, hhb6⟩, fun D1 hD1 => ?_⟩
          refine lc_data (K := K) (walk_tup (K := K) (a := hb) (xs := hl.map V.str)) (fun i => (hl[i]?).bind fun x => if (!decide (x ∈ un)) = true then some (PyData.str x) else none) hD1 (by rw [List.length_map]; omega) (fun H' s => sqt_same s hhb6) (fun i _ d e => ?_) ?_ ?_
          · obtain ⟨b, _, e⟩ := Option.bind_eq_some_iff.mp e
            split at e
            · cases e; rfl
            · cases e
          · rintro j x0 H7' H7 hj s7 ⟨rfl, ex⟩ Q1 Q0 q1 q0
            obtain ⟨y, ey, rfl⟩ := map_at ex
            refine ⟨rfl, _, rfl, _, rfl, q2, _, rfl, .inr (sqt_same s7 hq2), rfl, flat_strV _, _, rfl, ?_⟩
            show if (!inV (.str y) (un.map V.str)) = true then _ else _
            rw [in_words]
            by_cases z : y ∈ un
            · rw [decide_eq_true z]
              refine iteF (q0 _ ?_ (Same.refl _))
              rw [ey]
              show (if (!decide (y ∈ un)) = true then some (PyData.str y) else none) = _
              rw [decide_eq_true z]
              rfl
            · rw [decide_eq_false z]
              refine iteT ⟨_, rfl, q1 _ _ (.str y) ?_ (Same.refl _) (.str _)⟩
              rw [ey]
              show (if (!decide (y ∈ un)) = true then some (PyData.str y) else none) = _
              rw [decide_eq_false z]
              rfl
          · intro H7 ac1 s7 hac1 hda1
            rw [List.length_map, range_filt (fun x => !decide (x ∈ un))] at hda1
            have := dpAll_strs_inv hda1
            subst this
            refine .inl ⟨D1, _, rfl, .inl (.inl hac1), fun t7 ht7 => ?_⟩
            have s8 := same_new (o := .tup ((hl.filter fun x => !decide (x ∈ un)).map V.str)) ht7
            have e7 : upd H7 t7 (.tup ((hl.filter fun x => !decide (x ∈ un)).map V.str)) t7 = some (.tup ((hl.filter fun x => !decide (x ∈ un)).map V.str)) := upd_same
            have s68 := s7.trans s8
            generalize upd H7 t7 (.tup ((hl.filter fun x => !decide (x ∈ un)).map V.str)) = H8 at *
            have eL8 := s68 _ _ eL6
            have han8 := sqt_same s68 han6
            refine ⟨_, rfl, .inl ⟨rfl, acc, .inl (.inl eL8)⟩, _, rfl, _, rfl, _, rfl, an, rfl, ⟨_, han8⟩, fun D2 hD2 => ?_⟩
            refine lc_data (K := K) (walk_tup (K := K) (a := an) (xs := (anewOf h ps).map V.str)) (fun i => ((anewOf h ps)[i]?).bind fun x => if decide (x ∈ un) = true then some (PyData.str x) else none) hD2 (by rw [List.length_map]; omega) (fun H' s => sqt_same s han8) (fun i _ d e => ?_) ?_ ?_
            · obtain ⟨b, _, e⟩ := Option.bind_eq_some_iff.mp e
              split at e
              · cases e; rfl
              · cases e
            · rintro j x0 H9' H9 hj s9 ⟨rfl, ex⟩ Q1 Q0 q1 q0
              obtain ⟨y, ey, rfl⟩ := map_at ex
              refine ⟨rfl, _, rfl, _, rfl, q2, _, rfl, .inr (sqt_same (s68.trans s9) hq2), rfl, flat_strV _, _, rfl, ?_⟩
              show if inV (.str y) (un.map V.str) = true then _ else _
              rw [in_words]
              by_cases z : y ∈ un
              · rw [decide_eq_true z]
                refine iteT ⟨_, rfl, q1 _ _ (.str y) ?_ (Same.refl _) (.str _)⟩
                rw [ey]
                show (if decide (y ∈ un) = true then some (PyData.str y) else none) = _
                rw [decide_eq_true z]
                rfl
              · rw [decide_eq_false z]
                refine iteF (q0 _ ?_ (Same.refl _))
                rw [ey]
                show (if decide (y ∈ un) = true then some (PyData.str y) else none) = _
                rw [decide_eq_false z]
                rfl
            · intro H9 ac2 s9 hac2 hda2
              rw [List.length_map, range_filt (fun x => decide (x ∈ un))] at hda2
              have := dpAll_strs_inv hda2
              subst this
              refine .inl ⟨D2, _, rfl, .inl (.inl hac2), fun t8 ht8 => ?_⟩
              have s10 := same_new (o := .tup (((anewOf h ps).filter fun x => decide (x ∈ un)).map V.str)) ht8
              have l1 := List.length_filter_le (fun x => !decide (x ∈ un)) hl
              have l2 := List.length_filter_le (fun x => decide (x ∈ un)) (anewOf h ps)
              refine cat_any (.inl (.inl (s10 _ _ (s9 _ _ e7)))) (.inl (.inl upd_same)) (by rw [List.length_map, List.length_map, sizeLine_eq]; omega) fun t9 H11 s11 ht9 => ?_
              rw [← List.map_append] at ht9
              have s811 := (s9.trans s10).trans s11
              have s611 := s68.trans s811
              have dpc := dep_mk.mp hdep c hcm
              have szc := sizeMem hcm
              refine ⟨x1, t9, c, _, rfl, dp_same s611 _ _ dc6, o3 c hcm, n3 c hcm, dpc, by omega, by omega, ht9, by rw [List.length_append]; omega, fun r H12 s12 dr => ?_⟩
              have s612 := s611.trans s12
              have eL12 := s612 _ _ eL6
              refine ⟨L, acc, r, rfl, rfl, eL12, ?_, ?_⟩
              · have := DpAll.len ha5
                rw [encL_len, List.length_take] at this
                rw [this, sizeLine_eq]
                omega
              · rw [scope_eq] at dr
                have eq : qs[i]? = some (c.plain (sc i)) := by
                  show (Tr.plains sc 0 ps)[i]? = _
                  rw [plains_at, ec, Nat.zero_add]
                  rfl
                have M12 : ∀ x, x = L → ∃ xs, H12 x = some (.lst xs) := fun x e => by subst e; exact ⟨_, eL12⟩
                refine ⟨_, _, _, _, rfl, (k6.trans (Kp.of_same (fun x e => by subst e; exact ⟨_, eL6⟩) s612)).trans (Kp.put M12 rfl), upd_same, ?_⟩
                rw [take_one eq, encL_map, List.map_append, ← encL_map]
                exact DpAll.app (dps_keep (fun _ _ q => sqt_put eL12 q) _ _ (flat_encL _) (dps_same s612 _ _ ha6)) (.cons (dp_keep (fun _ _ q => sqt_put eL12 q) _ _ (flat_enc _) dr) .nil)
        · rintro σ H5 ⟨v5, v6, v7, acc, rfl, k5, eL5, ha5⟩
          rw [List.take_of_length_le (by omega)] at ha5
          exact ⟨v5, v6, v7, acc, rfl, (Kp.of_same (fun x e => by subst e; exact ⟨_, eL⟩) s34).trans k5, eL5, ha5⟩
      · rintro σ1 H5 ⟨v5, v6, v7, acc, rfl, k5, eL5, ha5⟩
        have S5 : Same H H5 := fun b o' e => k5.st b o' (fun z => by
          have z' : b = L := z
          rw [z', hL0] at e
          cases e) (S2 _ _ e)
        have hd5 := dp_same S5 _ _ hd
        have han5 := k5.tup han2
        have lacc : acc.length = ps.length := by have := DpAll.len ha5; rw [encL_len] at this; omega
        have epl : (Tr.mk h ps).plain (inB hl) = if isRec h = true ∧ anewOf h ps ≠ [] then recP (held h) (anewOf h ps) qs else wrapL (anewOf h ps) h qs := shape_gen en es
        rw [epl] at k
        refine ⟨_, rfl, _, .inr (.inl ⟨_, han5, rfl⟩), ?_⟩
        cases ea : anewOf h ps with
        | nil =>
          rw [ea, if_neg (fun z => z.2 rfl)] at k
          refine iteT ⟨_, rfl, _, rfl, .ref a, L, h, Tr.encL ps, Tr.encL qs, acc, rfl, hd5, by rw [encL_len]; exact o1, by rw [encL_len, encL_len]; exact lq, by rw [encL_len]; omega, flat_encL qs, .inl (.inl (.inl eL5)), ha5, fun r H6 s6 dr => k _ _ (S5.trans s6) dr⟩
        | cons x0 rest =>
          rw [← ea]
          have nea : anewOf h ps ≠ [] := by rw [ea]; exact fun z => by cases z
          have hx0 : x0 ∈ held h := anew_sub (h := h) (ps := ps) (by rw [ea]; exact List.mem_cons_self)
          have nemp : ((anewOf h ps).map V.str).isEmpty = false := by rw [ea]; rfl
          rw [nemp]
          refine iteF ⟨_, rfl, rfl, _, rfl, ?_⟩
          rw [eq_rec o1]
          cases er : isRec h with
          | true =>
            obtain ⟨xs, rfl⟩ : ∃ xs, h = .bind "rec" xs := by
              cases h with
              | bind w xs =>
                have z : decide (w = "rec") = true := er
                exact ⟨xs, by rw [of_decide_eq_true z]⟩
              | _ => cases er
            rw [if_pos ⟨er, nea⟩] at k
            refine iteT ⟨_, rfl, _, rfl, _, rfl, .ref a, L, an, acc, xs, anewOf (.bind "rec" xs) ps, ps, qs, rfl, hd5, o, eL5, ha5, lq, han5, al, List.length_pos_of_mem hx0, fun r H6 s6 dr => k _ _ (S5.trans s6) dr⟩
          | false =>
            rw [if_neg (fun z => by rw [er] at z; exact Bool.false_ne_true z.1)] at k
            have hn0 : ps.length ≠ 0 := by
              cases h with
              | fn xs => have := o1.1; omega
              | one w y => have := o1.1; omega
              | bind w xs => have := o1.1; omega
              | _ => cases hx0
            obtain ⟨m, em⟩ : ∃ m, ps.length = m + 1 := ⟨ps.length - 1, by omega⟩
            obtain ⟨qL, eqL⟩ : ∃ q, qs[m]? = some q := ⟨qs[m]'(by omega), List.getElem?_eq_getElem _⟩
            obtain ⟨uL, euL, duL⟩ := DpAll.at ha5 (i := m) (d := qL.enc) (by rw [encL_map, List.getElem?_map, eqL]; rfl)
            have elast2 : acc = acc.take m ++ [uL] := by
              have e1 := take_one euL
              rw [← e1, List.take_of_length_le (by omega)]
            have hlast2 : atI acc (-1) = some uL := by
              rw [elast2]
              exact atI_last _ _
            refine iteF ⟨_, rfl, an, rfl, ⟨_, han5⟩, fun D3 hD3 => ?_⟩
            refine lc_data (K := K) (walk_tup (K := K) (a := an) (xs := (anewOf h ps).map V.str)) (fun i => ((anewOf h ps)[i]?).map fun x => PyData.tuple [.str x, (pairT (nameT x)).enc]) hD3 (by rw [List.length_map]; omega) (fun H' s => sqt_same s han5) (fun i _ d e => ?_) ?_ ?_
            · obtain ⟨x, _, rfl⟩ := Option.map_eq_some_iff.mp e
              simp [flatD, flatDs, flat_enc]
            · rintro i y0 H7' H7 hi s7 ⟨rfl, ex⟩ Q1 Q0 q1 q0
              obtain ⟨y, ey, rfl⟩ := map_at ex
              refine ⟨rfl, iteT (B := Q0 H7) ⟨_, rfl, _, rfl, by show 2 ≤ sizeLine; decide, fun p1 hp1 => ?_⟩⟩
              have s13 := same_new (o := .tup [V.str "name", V.str y]) hp1
              refine ⟨.ref p1, nameT y, rfl, .tup (.inl (.inl upd_same)) (.cons (.str _) (.cons (.str _) .nil)), fun r H14 s14 dr => ⟨by show 2 ≤ sizeLine; decide, fun p2 hp2 => ?_⟩⟩
              have s15 := same_new (o := .tup [V.str y, r]) hp2
              exact q1 _ _ (PyData.tuple [.str y, (pairT (nameT y)).enc]) (by rw [ey]; rfl) ((s13.trans s14).trans s15) (.tup (.inl (.inl upd_same)) (.cons (.str _) (.cons (dp_same s15 _ _ dr) .nil)))
            · intro H7 ac3 s7 hac3 hda3
              rw [List.length_map, Cm.range_map (fun x => PyData.tuple [.str x, (pairT (nameT x)).enc])] at hda3
              refine .inl ⟨D3, ac3, rfl, .inl (.inl hac3), fun t8 ht8 => ?_⟩
              have s8 := same_new (o := .tup ac3) ht8
              have eL8 := s8 _ _ (s7 _ _ eL5)
              refine ⟨_, rfl, _, rfl, L, _, _, _, rfl, rfl, .inl (.inl eL8), hlast2, by show 3 ≤ sizeLine; decide, fun t9 ht9 => ?_⟩
              have s9 := same_new (o := .tup [V.str "let", V.ref t8, uL]) ht9
              have s89 := s8.trans s9
              have eL9 := s9 _ _ eL8
              let letT := Tr.mk (.bind "let" (anewOf h ps)) (((anewOf h ps).map fun x => pairT (nameT x)) ++ [qL])
              have dlet : Dp K (upd (upd H7 t8 (.tup ac3)) t9 (.tup [V.str "let", V.ref t8, uL])) (.ref t9) letT.enc := by
                show Dp K _ _ (Tr.mk _ _).enc
                rw [enc_bind _ _ _ _ (by rw [List.length_map])]
                refine .tup (.inl (.inl upd_same)) (.cons (.str _) (.cons (.tup (.inl (.inl (s9 _ _ upd_same))) ?_) (.cons (dp_same (s7.trans s89) _ _ duL) .nil)))
                have ez : (((anewOf h ps).zip ((anewOf h ps).map fun x => pairT (nameT x))).map fun r => PyData.tuple [.str r.1, r.2.enc]) = (anewOf h ps).map fun x => PyData.tuple [.str x, (pairT (nameT x)).enc] := by
                  rw [List.zip_map_right, List.map_map, zip_self, List.map_map]
                  rfl
                rw [ez]
                exact dps_same s89 _ _ hda3
              have ha9 := dps_same (s7.trans s89) _ _ ha5
              generalize upd (upd H7 t8 (.tup ac3)) t9 (.tup [V.str "let", V.ref t8, uL]) = H9 at *
              refine ⟨_, rfl, _, rfl, L, acc, -1, m, rfl, rfl, eL9, by rw [lacc, em]; exact ixN_last, ?_⟩
              have hd9 := dp_same (s7.trans s89) _ _ hd5
              have up : ∀ {zs : List V}, ∀ b ys, SqT K H9 b ys → SqT K (upd H9 L (.lst zs)) b ys := fun b ys q => sqt_put eL9 q
              have eset : acc.set m (V.ref t9) = acc.take m ++ [V.ref t9] := set_last (by omega)
              have dset : DpAll K (upd H9 L (.lst (acc.set m (V.ref t9)))) (acc.set m (V.ref t9)) (Tr.encL (qs.take m ++ [letT])) := by
                rw [eset, encL_map, List.map_append, ← encL_map]
                refine DpAll.app (dps_keep up _ _ (flat_encL _) ?_) (.cons (dp_keep up _ _ (flat_enc _) dlet) .nil)
                have := DpAll.take m ha9
                rw [encL_map, ← List.map_take, ← encL_map] at this
                exact this
              have lq2 : (qs.take m ++ [letT]).length = ps.length := by
                rw [List.length_append, List.length_take]
                show min m qs.length + 1 = _
                omega
              have eqd : qs.drop (qs.length - 1) = [qL] := by
                obtain ⟨hx, e⟩ := List.getElem?_eq_some_iff.mp eqL
                rw [show qs.length - 1 = m by omega, List.drop_eq_getElem_cons hx, e, List.drop_of_length_le (by omega)]
              have ew : wrapL (anewOf h ps) h qs = Tr.mk h (qs.take m ++ [letT]) := by
                unfold wrapL
                rw [if_neg nea, eqd, show qs.length - 1 = m by omega]
              rw [ew] at k
              refine ⟨_, rfl, _, rfl, .ref a, L, h, Tr.encL ps, Tr.encL (qs.take m ++ [letT]), _, rfl, dp_keep up _ _ (flat_enc (.mk h ps)) hd9, by rw [encL_len]; exact o1, by rw [encL_len, encL_len]; exact lq2, by rw [encL_len]; omega, flat_encL _, .inl (.inl (.inl upd_same)), dset, fun r H10 s10 dr => k _ _ ?_ dr⟩
              intro b o' e
              refine s10 b o' ?_
              rw [upd_ne fun z => by rw [z, hL0] at e; cases e]
              exact (s7.trans s89) _ _ (S5 _ _ e)
end
end K04

namespace K04
open PySem L2 Cm
def noH : Str → Bool := fun _ => false
theorem inB_nil : inB [] = noH := by
  funext x
  show decide (x ∈ ([] : List Str)) = false
  exact decide_eq_false (by simp)
def spWithout (K : PySem.W.Frag) : Sp := fun vs H Q _ => ∃ (v : V) (t : Tr), vs = [v] ∧ Dp K H v t.enc ∧ t.ok ∧ t.nw ∧ t.dep ≤ 70 ∧ t.size ≤ 1000000 ∧
  ∀ (r : V) (H' : Hp), Same H H' → Dp K H' r (t.plain noH).enc → Q r H'
section
variable {P : Program} {w : World} {K : PySem.W.Frag} {mg : Str → Option Value} {base : Heap}
abbrev s_p_without_set : Stmt := top 8
abbrev N_p_without_set : List Str := ["tree"]
theorem sc_p_without_set : FnScope N_p_without_set ["tree"] (defScope s_p_without_set) := ⟨rfl, rfl, rfl, by decide +kernel, rfl, by decide +kernel, by decide +kernel⟩
theorem ok_p_without_set (c_p_plain : Cl P w K mg base 146 "_plain" (spPlain K 70)) (D : At K mg "without_set" s_p_without_set ["tree"]) : Cl P w K mg base 147 "without_set" (spWithout K) := by
  refine cl_of (k := 146) D sc_p_without_set (fun vs H Q E h => ?_) fun f cdv A outer s H vs Q E hr h => ?_
  · obtain ⟨v, t, rfl, _⟩ := h
    rfl
  · obtain ⟨v, t, rfl, hd, o, nw, hdep, hsz, k⟩ := h
    refine ⟨_, (pss_one (ps_ret (pe_c c_p_plain hr (by decide) (by rfl) (pa_cons (pv 0) (pa_cons (pe_tup pa_nil) pa_nil))))), ?_⟩
    refine ⟨_, rfl, by show 0 ≤ sizeLine; decide, fun b hb => ⟨v, b, t, [], rfl, dp_same (same_new hb) _ _ hd, o, nw, hdep, by omega, hsz, .inl (.inl upd_same), by show 0 + 10 * 70 ≤ 10000; decide, fun r H' s' d => ?_⟩⟩
    rw [inB_nil] at d
    exact k r H' ((same_new hb).trans s') d
end
end K04

namespace K04
open PySem L2 Cm
/-- the parts of a form, as a new list -/
def spPartsL (K : PySem.W.Frag) : Sp := fun vs H Q _ => ∃ (v : V) (h : Hd) (ds : List PyData), vs = [v] ∧ Dp K H v (encH h ds) ∧ hok h ds.length ∧ flatDs ds = true ∧ ds.length ≤ 100 ∧
  ∀ (l : Addr) (us : List V) (H' : Hp), Same H H' → H l = none → H' l = some (.lst us) → DpAll K H' us ds → Q (.ref l) H'
section
variable {P : Program} {w : World} {K : PySem.W.Frag} {mg : Str → Option Value} {base : Heap}
abbrev s_l_parts : Stmt := top 33
abbrev N_l_parts : List Str := ["_law_tree", "_law_word", "_law_pair"]
theorem sc_l_parts : FnScope N_l_parts ["_law_tree"] (defScope s_l_parts) := ⟨rfl, rfl, rfl, by decide +kernel, rfl, by decide +kernel, by decide +kernel⟩
theorem ok_l_parts (T : Txt mg) (D : At K mg "_law_parts" s_l_parts ["_law_tree"]) : Cl P w K mg base 1 "_law_parts" (spPartsL K) := by
  refine cl_of D sc_l_parts (fun vs H Q E h => ?_) fun f cdv A outer s H vs Q E hr h => ?_
  · obtain ⟨v, h, ds, rfl, _⟩ := h
    rfl
  · obtain ⟨v, h, ds, rfl, hd, o, fl, hlen, k⟩ := h
    obtain ⟨a, its, rfl, hs, hx⟩ := view hd
    refine ⟨_, (pss_cons (ps_set (i := 1) sc_l_parts.nd rfl (Or.inl rfl) (pe_ix ix_tup (pv 0) pe_int (fun _ _ => rfl)))
      (pss_cons (ps_if (pt_inW (pv 1) (.cons (.cons (.cons (.cons (.cons (.cons .nil)))))) (show 6 ≤ sizeLine by decide) (by rfl))
        (pss_one (ps_ret (pe_lst pa_nil)))
        pss_nil)
      (pss_cons (ps_if (pt_inW (pv 1) (.cons (.cons (.cons (.cons (.cons .nil))))) (show 5 ≤ sizeLine by decide) (by rfl))
        (pss_one (ps_ret (pe_lst (pa_cons (pe_ix ix_tup (pv 0) pe_int (fun _ _ => rfl)) pa_nil))))
        pss_nil)
      (pss_cons (ps_if (pt_inW (pv 1) (.cons (.cons .nil)) (show 2 ≤ sizeLine by decide) (by rfl))
        (pss_one (ps_ret (pe_op op_cat (pe_lc (own := [("_law_pair", 2)]) rfl sc_l_parts.nd (pi_tup (pe_ix ix_tup (pv 0) pe_int (fun _ _ => rfl))) (blkOk_by (N := N_l_parts) (sc := defScope s_l_parts) (by decide +kernel))
      (fun _ _ _ _ _ => (pg_name (i := 2) sc_l_parts.nd rfl (Or.inl rfl)))
      (fun _ _ _ _ _ => pts_nil)
      (fun _ _ _ _ _ => (pe_ix (kx_tup (K := K)) (pv 2) pe_int (fun _ _ => rfl)))) (pe_lst (pa_cons (pe_ix ix_tup (pv 0) pe_int (fun _ _ => rfl)) pa_nil)))))
        pss_nil)
      (pss_cons (ps_if (pt_cmpR op_eq (pv 1) pe_str (nomark _))
        (pss_one (ps_ret (pe_callTy call_list_of (by rfl) T.list (by decide +kernel) (pa_cons (pe_ix ix_tup (pv 0) pe_int (fun _ _ => rfl)) pa_nil))))
        pss_nil)
      (pss_cons (ps_if (pt_cmpR op_eq (pv 1) pe_str (nomark _))
        (pss_one (ps_ret (pe_op op_cat (pe_lst (pa_cons (pe_ix ix_tup (pv 0) pe_int (fun _ _ => rfl)) pa_nil)) (pe_callTy call_list_of (by rfl) T.list (by decide +kernel) (pa_cons (pe_ix ix_tup (pv 0) pe_int (fun _ _ => rfl)) pa_nil)))))
        pss_nil)
      (pss_cons (ps_if (pt_cmpR op_eq (pv 1) pe_str (nomark _))
        (pss_one (ps_ret (pe_callTy call_list_of (by rfl) T.list (by decide +kernel) (pa_cons (pe_ix ix_tup (pv 0) pe_int (fun _ _ => rfl)) pa_nil))))
        pss_nil)
      (pss_one (ps_ret (pe_callTy call_list_of (by rfl) T.list (by decide +kernel) (pa_cons (pe_slice sl_tupA (pv 0) (po_some pe_int) po_none) pa_nil))))))))))), ?_⟩
    have hhd := hx.head
    refine ⟨_, rfl, a, its, _, _, rfl, rfl, hs, hhd, ?_⟩
    refine ⟨_, rfl, rfl, fun H0 s0 => ?_⟩
    rw [in_L o]
    cases eL : kL h with
    | true =>
      refine iteT ⟨by show 0 ≤ sizeLine; decide, fun l hl => ?_⟩
      have e0 : ds = [] := by
        cases h with
        | num i => exact List.length_eq_zero_iff.mp o
        | name i => exact List.length_eq_zero_iff.mp o.1
        | lit i => exact List.length_eq_zero_iff.mp o.1
        | _ => cases eL
      subst e0
      exact k l [] _ (s0.trans (same_new hl)) (free_of s0 hl) upd_same .nil
    | false =>
    refine iteF ?_
    refine ⟨_, rfl, rfl, fun H1 s01 => ?_⟩
    have s1 := s0.trans s01
    rw [in_F o]
    cases eF : kF h with
    | true =>
      refine iteT ?_
      have hx1 := hx.same s1
      have hs1 := sqt_same s1 hs
      obtain ⟨v2, d, rfl, e2, hv2⟩ : ∃ v2 d, ds = [d] ∧ atI its 2 = some v2 ∧ Dp K H1 v2 d := by
        cases h with
        | fn xs =>
          obtain ⟨d, rfl⟩ := one_of o.1
          obtain ⟨q, vs, rfl, _, hv⟩ := hx1
          obtain ⟨v, rfl, hv'⟩ := dpAll_one hv
          exact ⟨v, d, rfl, atI_nat (j := 2) rfl, hv'⟩
        | one w x =>
          obtain ⟨d, rfl⟩ := one_of o.1
          obtain ⟨vs, rfl, hv⟩ := hx1
          obtain ⟨v, rfl, hv'⟩ := dpAll_one hv
          exact ⟨v, d, rfl, atI_nat (j := 2) rfl, hv'⟩
        | _ => cases eF
      refine ⟨_, rfl, a, _, _, _, rfl, rfl, hs1, e2, by show 1 ≤ sizeLine; decide, fun q hq => ?_⟩
      exact k q _ _ (s1.trans (same_new hq)) (free_of s1 hq) upd_same (.cons (dp_same (same_new hq) _ _ hv2) .nil)
    | false =>
      refine iteF ?_
      refine ⟨_, rfl, rfl, fun H2 s2 => ?_⟩
      have S2 := s1.trans s2
      rw [in_B o]
      cases eB : kB h with
      | true =>
        refine iteT ?_
        have hx2 := hx.same S2
        have hs2 := sqt_same S2 hs
        cases h with
        | bind w xs =>
          obtain ⟨q, rows, vs, rfl, hq, hrows, hv⟩ := hx2
          have hdl : ds.length = xs.length + 1 := o.1
          have hrl : rows.length = xs.length := by
            have := DpAll.len hrows
            rw [List.length_map, List.length_zip] at this
            omega
          refine ⟨_, rfl, a, _, _, _, rfl, rfl, hs2, atI_nat (j := 1) rfl, q, rfl, ⟨_, hq⟩, fun L hL => ?_⟩
          refine lc_data (K := K) (walk_tup (xs := rows)) (fun i => ((ds.take xs.length)[i]?).map id) hL (by omega) (fun H' s => sqt_same s hq) (fun i _ d e => ?_) ?_ ?_
          · obtain ⟨d', e', rfl⟩ := Option.map_eq_some_iff.mp e
            exact flatDs_all fl _ (List.mem_of_mem_take (List.mem_of_getElem? e'))
          · rintro i x H3 H4 hi s3 ⟨rfl, e2⟩ Q1 Q0 q1 q0
            obtain ⟨d, g1, g2⟩ := DpAll.atV hrows e2
            obtain ⟨p, ep, rfl⟩ := map_at g1
            obtain ⟨r, its3, rfl, hr3, hi3⟩ := dp_tup (dp_same s3 _ _ g2)
            cases hi3 with
            | cons h1 h2 =>
              obtain ⟨v, rfl, h3⟩ := dpAll_one h2
              refine ⟨rfl, ?_⟩
              refine ⟨_, rfl, r, _, _, _, rfl, rfl, hr3, atI_nat (j := 1) rfl, q1 _ _ p.2 ?_ (Same.refl _) h3⟩
              have := List.getElem?_zip_eq_some.mp ep
              rw [List.getElem?_take_of_lt (by omega), this.2]
              rfl
          · intro H3 acc s3 hacc ha3
            rw [show rows.length = (ds.take xs.length).length by rw [List.length_take]; omega, range_map, List.map_id] at ha3
            obtain ⟨dl, edl⟩ := one_of (show (ds.drop xs.length).length = 1 by rw [List.length_drop]; omega)
            rw [edl] at hv
            obtain ⟨vl, rfl, hvl⟩ := dpAll_one hv
            refine ⟨_, rfl, a, _, _, _, rfl, rfl, sqt_same s3 hs2, atI_nat (j := 2) rfl, by show 1 ≤ sizeLine; decide, fun t5 ht5 => ?_⟩
            have s5 := same_new (o := .lst [vl]) ht5
            have hl3 := DpAll.len ha3
            rw [List.length_take] at hl3
            refine ⟨L, t5, acc, [vl], rfl, rfl, s5 _ _ hacc, upd_same, Nat.le_trans (show acc.length + 1 ≤ 200 by omega) (by decide), fun t6 ht6 => ?_⟩
            have s6 := same_new (o := .lst (acc ++ [vl])) ht6
            refine k t6 _ _ ((S2.trans s3).trans (s5.trans s6)) (free_of ((S2.trans s3).trans s5) ht6) upd_same ?_
            have h7 : DpAll K _ (acc ++ [vl]) (ds.take xs.length ++ [dl]) := DpAll.app (dps_same (s5.trans s6) _ _ ha3) (.cons (dp_same (s3.trans (s5.trans s6)) _ _ hvl) .nil)
            rw [← edl, List.take_append_drop] at h7
            exact h7
        | _ => cases eB
      | false =>
        refine iteF ?_
        refine ⟨_, rfl, rfl, _, rfl, ?_⟩
        rw [eq_do o]
        cases eD : isDo h with
        | true =>
          refine iteT ?_
          have hx2 := hx.same S2
          cases h with
          | doo =>
            obtain ⟨q, vs, rfl, hq, hv⟩ := hx2
            refine ⟨_, rfl, a, _, _, _, rfl, rfl, sqt_same S2 hs, atI_nat (j := 1) rfl, q, _, rfl, .inr hq, fun l hl => ?_⟩
            exact k l vs _ (S2.trans (same_new hl)) (free_of S2 hl) upd_same (dps_same (same_new hl) _ _ hv)
          | _ => cases eD
        | false =>
          refine iteF ?_
          refine ⟨_, rfl, rfl, _, rfl, ?_⟩
          rw [eq_call o]
          cases eC : isCall h with
          | true =>
            refine iteT ?_
            have hx2 := hx.same S2
            cases h with
            | call =>
              obtain ⟨q, us, vs, rfl, hu, hq, hv⟩ := hx2
              have hdl : 1 ≤ ds.length := o
              obtain ⟨d0, e0⟩ := one_of (show (ds.take 1).length = 1 by rw [List.length_take]; omega)
              rw [e0] at hu
              obtain ⟨u0, rfl, hu0⟩ := dpAll_one hu
              refine ⟨_, rfl, a, _, _, _, rfl, rfl, sqt_same S2 hs, atI_nat (j := 1) rfl, by show 1 ≤ sizeLine; decide, fun t3 ht3 => ?_⟩
              have s3 := same_new (o := .lst [u0]) ht3
              refine ⟨_, rfl, a, _, _, _, rfl, rfl, sqt_same (S2.trans s3) hs, atI_nat (j := 2) rfl, q, _, rfl, .inr (sqt_same s3 hq), fun t4 ht4 => ?_⟩
              have s4 := same_new (o := .lst vs) ht4
              have hvl := DpAll.len hv
              rw [List.length_drop] at hvl
              refine ⟨t3, t4, [u0], vs, rfl, rfl, s4 _ _ upd_same, upd_same, Nat.le_trans (show 1 + vs.length ≤ 200 by omega) (by decide), fun t5 ht5 => ?_⟩
              have s5 := same_new (o := .lst ([u0] ++ vs)) ht5
              have s35 := s3.trans (s4.trans s5)
              refine k t5 _ _ (S2.trans s35) (free_of (S2.trans (s3.trans s4)) ht5) upd_same ?_
              have h7 : DpAll K _ ([u0] ++ vs) ([d0] ++ ds.drop 1) := DpAll.app (.cons (dp_same s35 _ _ hu0) .nil) (dps_same s35 _ _ hv)
              rw [← e0, List.take_append_drop] at h7
              exact h7
            | _ => cases eC
          | false =>
            refine iteF ?_
            refine ⟨_, rfl, rfl, _, rfl, ?_⟩
            rw [eq_op o]
            cases eO : isOp h with
            | true =>
              refine iteT ?_
              have hx2 := hx.same S2
              cases h with
              | op o' =>
                obtain ⟨q, vs, rfl, hq, hv⟩ := hx2
                refine ⟨_, rfl, a, _, _, _, rfl, rfl, sqt_same S2 hs, atI_nat (j := 2) rfl, q, _, rfl, .inr hq, fun l hl => ?_⟩
                exact k l vs _ (S2.trans (same_new hl)) (free_of S2 hl) upd_same (dps_same (same_new hl) _ _ hv)
              | _ => cases eO
            | false =>
              refine iteF ?_
              have hx3 := hx.same S2
              cases h with
              | plain w =>
                obtain ⟨vs, rfl, hv⟩ := hx3
                refine ⟨_, rfl, 1, rfl, ?_⟩
                refine sl_from (k := 1) (sqt_same S2 hs) (by rw [List.length_cons]; omega) fun t4 H4 s4 ht4 => ?_
                refine ⟨t4, _, rfl, .inr ht4, fun l hl => ?_⟩
                exact k l vs _ ((S2.trans s4).trans (same_new hl)) (free_of (S2.trans s4) hl) upd_same (dps_same (s4.trans (same_new hl)) _ _ hv)
              | num i => cases eL
              | name i => cases eL
              | lit i => cases eL
              | one _ _ => cases eF
              | fn _ => cases eF
              | bind _ _ => cases eB
              | doo => cases eD
              | call => cases eC
              | op _ => cases eO
end
end K04

namespace K04
open PySem L2 Cm
def spBinds (K : PySem.W.Frag) : Sp := fun vs H Q _ => ∃ (v : V) (h : Hd) (ds : List PyData), vs = [v] ∧ Dp K H v (encH h ds) ∧ hok h ds.length ∧ ds.length ≤ 100 ∧
  ∀ (l : Addr) (H' : Hp), Same H H' → H l = none → H' l = some (.lst ((held h).map V.str)) → Q (.ref l) H'
def spSets (K : PySem.W.Frag) (n : Nat) : Sp := fun vs H Q _ => ∃ (v : V) (t : Tr), vs = [v] ∧ Dp K H v t.enc ∧ t.ok ∧ t.dep ≤ n ∧ t.size ≤ 10000000 ∧
  ∀ (l : Addr) (H' : Hp), Same H H' → H l = none → H' l = some (.lst ((t.free true).map V.str)) → Q (.ref l) H'
section
variable {P : Program} {w : World} {K : PySem.W.Frag} {mg : Str → Option Value} {base : Heap}
abbrev s_l_binds : Stmt := top 34
abbrev N_l_binds : List Str := ["_law_tree", "_law_word", "_law_pair"]
theorem sc_l_binds : FnScope N_l_binds ["_law_tree"] (defScope s_l_binds) := ⟨rfl, rfl, rfl, by decide +kernel, rfl, by decide +kernel, by decide +kernel⟩
theorem ok_l_binds (T : Txt mg) (D : At K mg "_law_binds" s_l_binds ["_law_tree"]) : Cl P w K mg base 1 "_law_binds" (spBinds K) := by
  refine cl_of D sc_l_binds (fun vs H Q E h => ?_) fun f cdv A outer s H vs Q E hr h => ?_
  · obtain ⟨v, h, ds, rfl, _⟩ := h
    rfl
  · obtain ⟨v, h, ds, rfl, hd, o, hlen, k⟩ := h
    obtain ⟨a, its, rfl, hs, hx⟩ := view hd
    refine ⟨_, (pss_cons (ps_set (i := 1) sc_l_binds.nd rfl (Or.inl rfl) (pe_ix ix_tup (pv 0) pe_int (fun _ _ => rfl)))
      (pss_cons (ps_if (pt_cmpR op_eq (pv 1) pe_str (nomark _))
        (pss_one (ps_ret (pe_callTy call_list_of (by rfl) T.list (by decide +kernel) (pa_cons (pe_ix ix_tup (pv 0) pe_int (fun _ _ => rfl)) pa_nil))))
        pss_nil)
      (pss_cons (ps_if (pt_inW (pv 1) (.cons (.cons .nil)) (show 2 ≤ sizeLine by decide) (by rfl))
        (pss_one (ps_ret (pe_lc (own := [("_law_pair", 2)]) rfl sc_l_binds.nd (pi_tup (pe_ix ix_tup (pv 0) pe_int (fun _ _ => rfl))) (blkOk_by (N := N_l_binds) (sc := defScope s_l_binds) (by decide +kernel))
      (fun _ _ _ _ _ => (pg_name (i := 2) sc_l_binds.nd rfl (Or.inl rfl)))
      (fun _ _ _ _ _ => pts_nil)
      (fun _ _ _ _ _ => (pe_ix (kx_tup (K := K)) (pv 2) pe_int (fun _ _ => rfl))))))
        pss_nil)
      (pss_one (ps_ret (pe_ifExp (pt_inW (pv 1) (.cons (.cons (.cons .nil))) (show 3 ≤ sizeLine by decide) (by rfl)) (pe_lst (pa_cons (pe_ix ix_tup (pv 0) pe_int (fun _ _ => rfl)) pa_nil)) (pe_lst pa_nil))))))), ?_⟩
    refine ⟨_, rfl, a, its, _, _, rfl, rfl, hs, hx.head, ?_⟩
    refine ⟨_, rfl, rfl, _, rfl, ?_⟩
    rw [eq_fn o]
    cases eF : isFn h with
    | true =>
      refine iteT ?_
      cases h with
      | fn xs =>
        obtain ⟨q, vs, rfl, hq, hv⟩ := hx
        refine ⟨_, rfl, a, _, _, _, rfl, rfl, hs, atI_nat (j := 1) rfl, q, _, rfl, .inr hq, fun l hl => ?_⟩
        exact k l _ (same_new hl) hl upd_same
      | _ => cases eF
    | false =>
      refine iteF ?_
      refine ⟨_, rfl, rfl, fun H1 s1 => ?_⟩
      have hs1 := sqt_same s1 hs
      have hx1 := hx.same s1
      rw [in_B o]
      cases eB : kB h with
      | true =>
        refine iteT ?_
        cases h with
        | bind w xs =>
          obtain ⟨q, rows, vs, rfl, hq, hrows, hv⟩ := hx1
          have hdl : ds.length = xs.length + 1 := o.1
          have hrl : rows.length = xs.length := by
            have := DpAll.len hrows
            rw [List.length_map, List.length_zip] at this
            omega
          refine ⟨_, rfl, a, _, _, _, rfl, rfl, hs1, atI_nat (j := 1) rfl, q, rfl, ⟨_, hq⟩, fun L hL => ?_⟩
          refine lc_data (K := K) (walk_tup (xs := rows)) (fun i => (xs[i]?).map PyData.str) hL (by omega) (fun H' s => sqt_same s hq) (fun i _ d e => ?_) ?_ ?_
          · obtain ⟨d', e', rfl⟩ := Option.map_eq_some_iff.mp e
            rfl
          · rintro i x H3 H4 hi s3 ⟨rfl, e2⟩ Q1 Q0 q1 q0
            obtain ⟨d, g1, g2⟩ := DpAll.atV hrows e2
            obtain ⟨p, ep, rfl⟩ := map_at g1
            obtain ⟨r, its3, rfl, hr3, hi3⟩ := dp_tup (dp_same s3 _ _ g2)
            cases hi3 with
            | cons h1 h2 =>
              refine ⟨rfl, _, rfl, r, _, _, _, rfl, rfl, hr3, atI_nat (j := 0) rfl, q1 _ _ (.str p.1) ?_ (Same.refl _) h1⟩
              rw [(List.getElem?_zip_eq_some.mp ep).1]
              rfl
          · intro H3 acc s3 hacc ha3
            rw [show rows.length = xs.length by omega, range_map] at ha3
            have ea := dpAll_strs_inv ha3
            subst ea
            exact k L _ (s1.trans s3) (free_of s1 hL) hacc
        | _ => cases eB
      | false =>
        refine iteF ?_
        refine ⟨_, rfl, rfl, fun H2 s2 => ?_⟩
        have S2 := s1.trans s2
        have hx2 := hx1.same s2
        rw [in_T o]
        cases eT : isTak h with
        | true =>
          refine iteT ?_
          cases h with
          | one w x =>
            obtain ⟨vs, rfl, hv⟩ := hx2
            refine ⟨_, rfl, a, _, _, _, rfl, rfl, sqt_same s2 hs1, atI_nat (j := 1) rfl, by show 1 ≤ sizeLine; decide, fun l hl => ?_⟩
            have e2 : held (.one w x) = [x] := by
              have : (!decide (w = "set")) = true := eT
              show (if w = "set" then [] else [x] : List Str) = [x]
              rw [if_neg (fun z => by rw [decide_eq_true z] at this; cases this)]
            exact k l _ (S2.trans (same_new hl)) (free_of S2 hl) (by rw [e2]; exact upd_same)
          | _ => cases eT
        | false =>
          refine iteF ⟨by show 0 ≤ sizeLine; decide, fun l hl => ?_⟩
          have eh : held h = [] := by
            cases h with
            | fn xs => cases eF
            | bind w xs => cases eB
            | one w x =>
              have : (!decide (w = "set")) = false := eT
              show (if w = "set" then [] else [x] : List Str) = []
              rw [if_pos (by
                by_cases z : w = "set"
                · exact z
                · rw [decide_eq_false z] at this
                  cases this)]
            | _ => rfl
          exact k l _ (S2.trans (same_new hl)) (free_of S2 hl) (by rw [eh]; exact upd_same)
abbrev s_l_sets : Stmt := top 35
abbrev N_l_sets : List Str := ["_law_tree", "_law_word", "_law_held", "_law_parts_here", "_law_found", "_law_at", "_law_outside", "_law_name"]
theorem sc_l_sets : FnScope N_l_sets ["_law_tree"] (defScope s_l_sets) := ⟨rfl, rfl, rfl, by decide +kernel, rfl, by decide +kernel, by decide +kernel⟩
theorem ok_l_sets (T : Txt mg) (c_l_parts : Cl P w K mg base 1 "_law_parts" (spPartsL K)) (c_l_binds : Cl P w K mg base 1 "_law_binds" (spBinds K)) (D : At K mg "_law_sets" s_l_sets ["_law_tree"]) : ∀ n, Cl P w K mg base (n + 2) "_law_sets" (spSets K n) := by
  intro n
  induction n with
  | zero =>
    refine cl_of (k := 1) D sc_l_sets (fun vs H Q E h => ?_) fun f cdv A outer s H vs Q E hr h => ?_
    · obtain ⟨v, t, rfl, _⟩ := h
      rfl
    · obtain ⟨v, t, _, _, _, z, _⟩ := h
      cases t with
      | mk hd ps => exact absurd z (by show ¬ (Tr.deps ps + 1 ≤ 0); omega)
  | succ n ih =>
    refine cl_of (k := n + 2) D sc_l_sets (fun vs H Q E h => ?_) fun f cdv A outer s H vs Q E hr h => ?_
    · obtain ⟨v, t, rfl, _⟩ := h
      rfl
    · obtain ⟨v, t, rfl, hd, o, hdep, hsz, k⟩ := h
      cases t with
      | mk h ps =>
      obtain ⟨o1, o2, o3⟩ := ok_mk' o
      have hsz' : Tr.sizes ps + 1 ≤ 10000000 := hsz
      obtain ⟨a, its, rfl, hs, hx⟩ := view hd
      have fle : flatDs (Tr.encL ps) = true := flat_encL ps
      refine ⟨_, (pss_cons (ps_set (i := 1) sc_l_sets.nd rfl (Or.inl rfl) (pe_ix ix_tup (pv 0) pe_int (fun _ _ => rfl)))
      (pss_cons (ps_set (i := 2) sc_l_sets.nd rfl (Or.inr rfl) (pe_c c_l_binds hr (by omega) (by rfl) (pa_cons (pv 0) pa_nil)))
      (pss_cons (ps_set (i := 3) sc_l_sets.nd rfl (Or.inl rfl) (pe_c c_l_parts hr (by omega) (by rfl) (pa_cons (pv 0) pa_nil)))
      (pss_mid (ps_set (i := 4) sc_l_sets.nd rfl (Or.inl rfl) (pe_ifExp (pt_cmpR op_eq (pv 1) pe_str (nomark _)) (pe_lst (pa_cons (pe_ix ix_tup (pv 0) pe_int (fun _ _ => rfl)) pa_nil)) (pe_lst pa_nil)))
      (pss_cons (ps_for PassesOwn.never rfl (pi_range1 (by rfl) T.range (pa_cons (pe_callB call_len_seq (by rfl) T.len (by decide +kernel) (pa_cons (pv 3) pa_nil)) pa_nil)) (pg_name (i := 5) sc_l_sets.nd rfl (Or.inl rfl))
        (pss_mid (ps_set (i := 6) sc_l_sets.nd rfl (Or.inr rfl) (pe_and (pe_cmpR op_eq (pv 1) pe_str (nomark _)) (pe_one (pe_cmpR op_lt (pv 5) (pe_op op_sub (pe_callB call_len_seq (by rfl) T.len (by decide +kernel) (pa_cons (pv 3) pa_nil)) pe_int) (nomark _)))))
        (pss_one (ps_set (i := 4) sc_l_sets.nd rfl (Or.inl rfl) (pe_op op_cat (pv 4) (pe_lc (own := [("_law_name", 7)]) rfl sc_l_sets.nd (pi_list (pe_c ih hr (by omega) (by rfl) (pa_cons (pe_ix ix_list (pv 3) (pv 5) (fun _ _ => rfl)) pa_nil))) (blkOk_by (N := N_l_sets) (sc := defScope s_l_sets) (by decide +kernel))
      (fun _ _ _ _ _ => (pg_name (i := 7) sc_l_sets.nd rfl (Or.inl rfl)))
      (fun _ _ _ _ _ => (pts_one (PW.pt (pw_or (pt_val (pv 6)) (pw_or1 (pt_cmpR (ko_notIn (K := K)) (pv 7) (pv 2) (by rfl)))))))
      (fun _ _ _ _ _ => (pv 7))))))))
      (pss_one (ps_ret (pv 4)))))))), ?_⟩
      refine ⟨_, rfl, a, its, _, _, rfl, rfl, hs, hx.head, ?_⟩
      refine ⟨_, rfl, .ref a, h, Tr.encL ps, rfl, hd, by rw [encL_len]; exact o1, by rw [encL_len]; omega, fun hl H1 s1 _ hhl => ?_⟩
      refine ⟨_, rfl, .ref a, h, Tr.encL ps, rfl, dp_same s1 _ _ hd, by rw [encL_len]; exact o1, fle, by rw [encL_len]; omega, fun pl us H2 s2 _ hpl hus => ?_⟩
      have S2 := s1.trans s2
      have hhl2 := s2 _ _ hhl
      have hul := DpAll.len hus
      rw [encL_len] at hul
      refine ⟨fun σ' H' => ∃ F : Addr, σ' = [some (.ref a), some (.str (wd h)), some (.ref hl), some (.ref pl), some (.ref F), none, none, none] ∧ Same H2 H' ∧ H F = none ∧ H' F = some (.lst ((own true h).map V.str)), ?_, ?_⟩
      · refine ⟨_, rfl, rfl, _, rfl, ?_⟩
        rw [eq_set o1]
        have ho := in_G o1 true
        cases es : (kd h == 3 && !isTak h) with
        | true =>
          have e1 : (!(own true h).isEmpty) = true := by
            cases h with
            | one w x =>
              have hw : (true && !(!decide (w = "set"))) = true := es
              rw [Bool.true_and, Bool.not_not] at hw
              show (!(if w = "set" then [x] else [] : List Str).isEmpty) = true
              rw [if_pos (of_decide_eq_true hw)]
              rfl
            | _ => cases es
          obtain ⟨y, ey, e2⟩ := own_at (hx.same S2) e1
          refine iteT ⟨_, rfl, a, _, _, _, rfl, rfl, sqt_same S2 hs, e2, by show 1 ≤ sizeLine; decide, fun F hF => ⟨F, rfl, same_new hF, free_of S2 hF, ?_⟩⟩
          rw [ey]
          exact upd_same
        | false =>
          have e1 : own true h = [] := by
            cases h with
            | one w x =>
              have hw : (true && !(!decide (w = "set"))) = false := es
              rw [Bool.true_and, Bool.not_not] at hw
              show (if w = "set" then [x] else [] : List Str) = []
              rw [if_neg (of_decide_eq_false hw)]
            | name x => rfl
            | _ => rfl
          refine iteF ⟨by show 0 ≤ sizeLine; decide, fun F hF => ⟨F, rfl, same_new hF, free_of S2 hF, ?_⟩⟩
          rw [e1]
          exact upd_same
      · rintro σ' H3 ⟨F, rfl, s3, nF, hF⟩
        have S3 := S2.trans s3
        have hpl3 := s3 _ _ hpl
        have hhl3 := s3 _ _ hhl2
        have hus3 := dps_same s3 _ _ hus
        refine ⟨_, rfl, pl, _, rfl, .inl (.inl (.inl hpl3)), _, rfl, by omega, by omega, ?_⟩
        refine for_it (walk_upto (n := (us.length : Int).toNat)) (fun i σ H' => ∃ (F : Addr) (v5 v6 : Option V), σ = [some (.ref a), some (.str (wd h)), some (.ref hl), some (.ref pl), some (.ref F), v5, v6, none] ∧ Same H3 H' ∧ H F = none ∧ H' F = some (.lst ((own true h ++ Tr.frees true h ps.length 0 (ps.take i)).map V.str)))
          ⟨F, none, none, rfl, Same.refl _, nF, by rw [List.take_zero]; show H3 F = some (.lst ((own true h ++ []).map V.str)); rw [List.append_nil]; exact hF⟩ (fun _ _ _ _ _ => trivial) ?_ ?_
        · rintro i x σ H4 H4' hi ⟨F, v5, v6, rfl, s4, nF, hF⟩ ⟨rfl, rfl⟩
          have hi' : i < ps.length := by omega
          have hi2 : i < us.length := by omega
          obtain ⟨d, g1, g2⟩ := DpAll.atV hus3 (List.getElem?_eq_getElem hi2)
          obtain ⟨c, ec, rfl⟩ := encL_at' g1
          have hcm : c ∈ ps := List.mem_of_getElem? ec
          obtain ⟨et, el⟩ := take_next ec
          have hst := sizes_take' ps (i + 1)
          rw [et, sizes_snoc] at hst
          have hfl := frees_len true h ps.length 0 (ps.take i)
          have hol := own_len true h
          have hcl := free_len true c
          have hpl4 := s4 _ _ hpl3
          have hus4 := dp_same s4 _ _ g2
          obtain ⟨ou, hou⟩ : ∃ ou : Bool, ou = (isLet h && decide (i + 1 < ps.length)) := ⟨_, rfl⟩
          have eu : ∀ y, (ou || !decide (y ∈ held h)) = !decide (y ∈ under h ps.length i) := fun y => by
            rw [hou]
            unfold under
            by_cases q : isLet h = true ∧ i + 1 < ps.length
            · rw [if_pos q, q.1, decide_eq_true q.2]
              simp
            · rw [if_neg q]
              have : (isLet h && decide (i + 1 < ps.length)) = false := by
                cases z : isLet h with
                | false => rfl
                | true => exact decide_eq_false fun z2 => q ⟨z, z2⟩
              rw [this, Bool.false_or]
          refine ⟨fun σ' H' => σ' = [some (.ref a), some (.str (wd h)), some (.ref hl), some (.ref pl), some (.ref F), some (.int (i : Int)), some (.bl ou), none] ∧ H' = H4', ?_, ?_⟩
          · refine ⟨_, rfl, rfl, _, rfl, ?_⟩
            rw [eq_let o1]
            cases eL : isLet h with
            | false =>
              refine iteF ⟨?_, rfl⟩
              have ef : ou = false := by rw [hou, eL]; rfl
              rw [ef]
              rfl
            | true =>
              refine iteT ⟨_, rfl, _, rfl, pl, _, rfl, .inl (.inl (.inl hpl4)), _, _, rfl, rfl, _, _, rfl, rfl, ?_, rfl⟩
              have ef : ou = decide (((i : Nat) : Int) < (us.length : Int) - 1) := by
                rw [hou, eL, Bool.true_and, Bool.eq_iff_iff, decide_eq_true_eq, decide_eq_true_eq]
                omega
              rw [ef]
              rfl
          · rintro σ' _ ⟨rfl, rfl⟩
            refine ⟨_, rfl, _, rfl, _, rfl, pl, _, _, _, rfl, rfl, .inl (.inl hpl4), atI_nat (List.getElem?_eq_getElem hi2), _, c, rfl, hus4, o3 c hcm, dep_mk.mp hdep c hcm, by omega, fun l2 H5 s5 nl2 hl2 => ?_⟩
            refine ⟨l2, rfl, ⟨_, .inl (.inl hl2)⟩, fun L hL => ?_⟩
            have S45 := s4.trans s5
            have hF5 := s5 _ _ hF
            have hhl5 := S45 _ _ hhl3
            refine lc_dataW (K := K) (walk_list (xs := (c.free true).map V.str)) (fun j => ((c.free true)[j]?).bind fun x => if (!decide (x ∈ under h ps.length i)) = true then some (.str x) else none) hL (by rw [List.length_map]; omega) (fun H' s => .inl (.inl (s _ _ hl2))) (fun i _ d e => ?_) ?_ ?_
            · obtain ⟨p, _, e'⟩ := Option.bind_eq_some_iff.mp e
              split at e'
              · cases e'
                rfl
              · cases e'
            · rintro j x H6 H7 hj s6 ⟨rfl, e2⟩ Q1 Q0 q1 q0
              obtain ⟨y, ey, rfl⟩ := map_at e2
              refine ⟨rfl, ?_⟩
              have q1' : (!decide (y ∈ under h ps.length i)) = true → Q1 (.str y) H7 := fun z => q1 _ _ (.str y) (by rw [ey]; exact if_pos z) (Same.refl _) (.str y)
              have q0' : (!decide (y ∈ under h ps.length i)) = false → Q0 H7 := fun z => q0 _ (by rw [ey]; exact if_neg (by rw [z]; exact Bool.false_ne_true)) (Same.refl _)
              rw [← eu y] at q1' q0'
              refine ⟨_, rfl, ou, rfl, ?_⟩
              cases ou with
              | true => exact iteT (iteT ⟨_, rfl, q1' rfl⟩)
              | false =>
                rw [Bool.false_or] at q1' q0'
                refine iteF ⟨_, rfl, _, rfl, hl, _, rfl, .inl (.inl (.inl (s6 _ _ hhl5))), rfl, flat_strV _, _, rfl, ?_⟩
                show if (!inV (.str y) ((held h).map V.str)) = true then _ else _
                rw [in_words]
                cases z : !decide (y ∈ held h) with
                | false => exact iteF (q0' z)
                | true => exact iteT ⟨_, rfl, q1' z⟩
            · intro H6 acc s6 hacc ha6
              rw [List.length_map, range_filt] at ha6
              have ea := dpAll_strs_inv ha6
              subst ea
              have hfl2 := List.length_filter_le (fun x => !decide (x ∈ under h ps.length i)) (c.free true)
              refine ⟨F, L, _, _, rfl, rfl, s6 _ _ hF5, hacc, ?_, fun F2 hF2 => ?_⟩
              · rw [List.length_map, List.length_map, List.length_append, sizeLine_eq]
                omega
              · have s7 := same_new (o := .lst ((own true h ++ Tr.frees true h ps.length 0 (ps.take i)).map V.str ++ ((c.free true).filter fun x => !decide (x ∈ under h ps.length i)).map V.str)) hF2
                refine ⟨F2, _, _, rfl, (S45.trans s6).trans s7, free_of (S3.trans (S45.trans s6)) hF2, ?_⟩
                rw [upd_same, et, frees_snoc, el, Nat.zero_add, ← List.map_append, List.append_assoc]
        · rintro σ H4 ⟨F, v6, v7, rfl, s4, nF, hF⟩
          rw [show (us.length : Int).toNat = ps.length by omega, List.take_of_length_le (Nat.le_refl _)] at hF
          exact ⟨_, rfl, k F H4 (S3.trans s4) nF hF⟩
end
end K04

namespace K04
open PySem L2 Cm
def pairedT (names : List Str) (b : Tr) : Tr := if names = [] then b else .mk (.bind "let" names) ((names.map fun x => pairT (nameT x)) ++ [b])
def spPaired (K : PySem.W.Frag) : Sp := fun vs H Q _ => ∃ (nl : Addr) (v : V) (names : List Str) (b : Tr), vs = [.ref nl, v] ∧ H nl = some (.lst (names.map V.str)) ∧ names.length ≤ 1000 ∧ Dp K H v b.enc ∧
  ∀ (r : V) (H' : Hp), Same H H' → Dp K H' r (pairedT names b).enc → Q r H'
theorem rows_same (f : Str → Tr) (l : List Str) : ((l.zip (l.map f)).map fun r => PyData.tuple [.str r.1, r.2.enc]) = l.map fun x => PyData.tuple [.str x, (f x).enc] := by
  rw [List.zip_map_right, List.map_map, zip_self, List.map_map]
  rfl
section
variable {P : Program} {w : World} {K : PySem.W.Frag} {mg : Str → Option Value} {base : Heap}
abbrev s_l_paired : Stmt := top 36
abbrev N_l_paired : List Str := ["_law_names", "_law_body", "_law_name"]
theorem sc_l_paired : FnScope N_l_paired ["_law_names", "_law_body"] (defScope s_l_paired) := ⟨rfl, rfl, rfl, by decide +kernel, rfl, by decide +kernel, by decide +kernel⟩
theorem ok_l_paired (T : Txt mg) (D : At K mg "_law_paired" s_l_paired ["_law_names", "_law_body"]) : Cl P w K mg base 1 "_law_paired" (spPaired K) := by
  refine cl_of D sc_l_paired (fun vs H Q E h => ?_) fun f cdv A outer s H vs Q E hr h => ?_
  · obtain ⟨nl, v, names, b, rfl, _⟩ := h
    rfl
  · obtain ⟨nl, v, names, b, rfl, hn, hlen, hb, k⟩ := h
    refine ⟨_, (pss_cons (ps_if (pt_cmpR op_eq (pe_callB call_len_seq (by rfl) T.len (by decide +kernel) (pa_cons (pv 0) pa_nil)) pe_int (nomark _))
        (pss_one (ps_ret (pv 1)))
        pss_nil)
      (pss_one (ps_ret (pe_tup (pa_cons pe_str (pa_cons (pe_tupleOf (by rfl) T.tuple (pe_lc (own := [("_law_name", 2)]) rfl sc_l_paired.nd (pi_list (pv 0)) (blkOk_by (N := N_l_paired) (sc := defScope s_l_paired) (by decide +kernel))
      (fun _ _ _ _ _ => (pg_name (i := 2) sc_l_paired.nd rfl (Or.inl rfl)))
      (fun _ _ _ _ _ => pts_nil)
      (fun _ _ _ _ _ => (pe_tup (pa_cons (pv 2) (pa_cons (pe_tup (pa_cons pe_str (pa_cons pe_str (pa_cons (pe_tup (pa_cons (pe_tup (pa_cons pe_str (pa_cons (pv 2) pa_nil))) (pa_cons (pe_tup (pa_cons pe_str pa_nil)) pa_nil))) pa_nil)))) pa_nil)))))) (pa_cons (pv 1) pa_nil))))))), ?_⟩
    refine ⟨_, rfl, nl, _, rfl, .inl (.inl (.inl hn)), rfl, _, rfl, ?_⟩
    show if decide (V.int (((names.map V.str).length : Nat) : Int) = V.int 0) = true then _ else _
    have ed : decide (V.int (((names.map V.str).length : Nat) : Int) = V.int 0) = decide (names.length = 0) := by
      rw [List.length_map, Bool.eq_iff_iff, decide_eq_true_eq, decide_eq_true_eq]
      exact ⟨fun e => by injection e with e; omega, fun e => by rw [e]; rfl⟩
    rw [ed]
    by_cases z : names = []
    · subst z
      exact iteT ⟨_, rfl, k _ _ (Same.refl _) hb⟩
    · have hne : names.length ≠ 0 := fun e => z (List.length_eq_zero_iff.mp e)
      rw [decide_eq_false hne]
      refine iteF ⟨_, rfl, nl, rfl, ⟨_, .inl (.inl hn)⟩, fun D1 hD1 => ?_⟩
      refine lc_data (K := K) (walk_list (K := K) (a := nl) (xs := names.map V.str)) (fun i => (names[i]?).map fun x => PyData.tuple [.str x, (pairT (nameT x)).enc]) hD1 (by rw [List.length_map]; omega) (fun H' s => .inl (.inl (s _ _ hn))) (fun i _ d e => ?_) ?_ ?_
      · obtain ⟨x, _, rfl⟩ := Option.map_eq_some_iff.mp e
        simp [flatD, flatDs, flat_enc]
      · rintro i y0 H7' H7 hi s7 ⟨rfl, ex⟩ Q1 Q0 q1 q0
        obtain ⟨y, ey, rfl⟩ := map_at ex
        refine ⟨rfl, iteT (B := Q0 H7) ⟨_, rfl, _, rfl, by show 2 ≤ sizeLine; decide, fun p1 hp1 => ⟨by show 1 ≤ sizeLine; decide, fun p2 hp2 => ⟨by show 2 ≤ sizeLine; decide, fun p3 hp3 => ⟨by show 3 ≤ sizeLine; decide, fun p4 hp4 => ⟨by show 2 ≤ sizeLine; decide, fun p5 hp5 => ?_⟩⟩⟩⟩⟩⟩
        have s1 := same_new (o := .tup [V.str "name", V.str y]) hp1
        have s2 := same_new (o := .tup [V.str "none"]) hp2
        have s3 := same_new (o := .tup [V.ref p1, V.ref p2]) hp3
        have s4 := same_new (o := .tup [V.str "op", V.str "pair", V.ref p3]) hp4
        have s5 := same_new (o := .tup [V.str y, V.ref p4]) hp5
        have s25 := ((s2.trans s3).trans s4).trans s5
        refine q1 _ _ (PyData.tuple [.str y, (pairT (nameT y)).enc]) (by rw [ey]; rfl) (s1.trans s25) (.tup (.inl (.inl upd_same)) (.cons (.str _) (.cons (.tup (.inl (.inl (s5 _ _ upd_same))) (.cons (.str _) (.cons (.str _) (.cons (.tup (.inl (.inl ((s4.trans s5) _ _ upd_same))) (.cons (.tup (.inl (.inl (s25 _ _ upd_same))) (.cons (.str _) (.cons (.str _) .nil))) (.cons (.tup (.inl (.inl (((s3.trans s4).trans s5) _ _ upd_same))) (.cons (.str _) .nil)) .nil))) .nil)))) .nil)))
      · intro H7 ac3 s7 hac3 hda3
        rw [List.length_map, Cm.range_map (fun x => PyData.tuple [.str x, (pairT (nameT x)).enc])] at hda3
        refine .inl ⟨D1, ac3, rfl, .inl (.inl hac3), fun t8 ht8 => ?_⟩
        have s8 := same_new (o := .tup ac3) ht8
        refine ⟨_, rfl, by show 3 ≤ sizeLine; decide, fun t9 ht9 => ?_⟩
        have s9 := same_new (o := .tup [V.str "let", V.ref t8, v]) ht9
        have s89 := s8.trans s9
        refine k _ _ (s7.trans s89) ?_
        unfold pairedT
        rw [if_neg z, enc_bind _ _ _ _ (by rw [List.length_map])]
        refine .tup (.inl (.inl upd_same)) (.cons (.str _) (.cons (.tup (.inl (.inl (s9 _ _ upd_same))) ?_) (.cons (dp_same (s7.trans s89) _ _ hb) .nil)))
        rw [rows_same (fun x => pairT (nameT x))]
        exact dps_same s89 _ _ hda3
end
end K04

set_option linter.all false
/-! the names of a row that pass a test, as a comprehension -/
namespace Cm
open PySem L2 PySem.Spec PyProof.Rows
theorem range_filtS (p : Str → Bool) (l : List Str) : (List.range l.length).filterMap (fun i => (l[i]?).bind fun x => if p x = true then some (PyData.str x) else none) = (l.filter p).map PyData.str := by
  induction l with
  | nil => rfl
  | cons a l ih =>
    rw [List.length_cons, List.range_succ_eq_map, List.filterMap_cons]
    simp only [List.getElem?_cons_zero, Option.bind_some, List.filterMap_map]
    have e : List.filterMap ((fun i => ((a :: l)[i]?).bind fun x => if p x = true then some (PyData.str x) else none) ∘ Nat.succ) (List.range l.length) = (l.filter p).map PyData.str := by
      rw [← ih]
      rfl
    rw [e]
    by_cases q : p a = true
    · rw [if_pos q, List.filter_cons_of_pos q]
      rfl
    · rw [if_neg q, List.filter_cons_of_neg q]
theorem lc_filt {K : PySem.W.Frag} {J : It} {G : Hp → Prop} (l : List Str) (p : Str → Bool) (wk : Walk J (l.map V.str).length G (YAt (l.map V.str))) {g : TG} {tt : TT} {te : TE} {vs : List Nat} {σ : L2.St} {H1 : Hp} {D : Addr} {Qd : Hp → Prop}
    (hD : H1 D = Option.none) (hn : l.length ≤ 100000) (hG : ∀ H, Same H1 H → G H)
    (hs : ∀ y H, y ∈ l → Same H1 H → ∀ (Q1 : VK) (Q0 : Hp → Prop), (∀ H4, Same H H4 → p y = true → Q1 (.str y) H4) → (∀ H4, Same H H4 → p y = false → Q0 H4) →
      g (.str y) (wipe σ vs) H fun σ2 H2 => wipe σ2 vs = wipe σ vs ∧ tt σ2 H2 fun b H3 => if b = true then te σ2 H3 Q1 else Q0 H3)
    (hd : ∀ H, Same H1 H → H D = some (.lst ((l.filter p).map V.str)) → Qd H) :
    ∃ W : Nat → Nat → Hp → Prop, (∃ m, W 0 m (upd H1 D (.lst []))) ∧ ∀ i m H, W i m H →
      (J.stop i H ∧ Qd H) ∨ (J.go i H ∧ ∃ Nx : Hp → Prop, (∀ H', Nx H' → ∃ m', m' < m ∧ W (i + 1) m' H') ∧ ∀ x H', J.yld i H x H' → g x (wipe σ vs) H' fun σ2 H2 => wipe σ2 vs = wipe σ vs ∧ tt σ2 H2 fun b H3 =>
        if b = true then te σ2 H3 fun y H4 => ∃ acc, H4 D = some (.lst acc) ∧ acc.length < sizeLine ∧ Nx (upd H4 D (.lst (acc ++ [y]))) else Nx H3) := by
  refine lc_data (K := K) wk (fun i => (l[i]?).bind fun x => if p x = true then some (.str x) else none) hD (by rw [List.length_map]; exact hn) hG (fun i _ d e => ?_) ?_ ?_
  · obtain ⟨b, _, e⟩ := Option.bind_eq_some_iff.mp e
    split at e
    · cases e; rfl
    · cases e
  · rintro i x H H' hi s ⟨rfl, ex⟩ Q1 Q0 q1 q0
    obtain ⟨y, ey, rfl⟩ := map_at ex
    refine hs y _ (List.mem_of_getElem? ey) s Q1 Q0 (fun H4 s4 z => q1 _ _ (.str y) (by rw [ey]; exact if_pos z) s4 (.str y)) (fun H4 s4 z => q0 _ (by rw [ey]; exact if_neg (by rw [z]; exact Bool.false_ne_true)) s4)
  · intro H acc s hacc ha
    rw [List.length_map, range_filtS p] at ha
    have := dpAll_strs_inv ha
    subst this
    exact hd H s hacc
/-- is a name in a row of names -/
theorem in_strs {l : List Str} {y : Str} {A B : Prop} (t : y ∈ l → A) (f : y ∉ l → B) : if inV (.str y) (l.map V.str) = true then A else B := by
  rw [in_words]
  by_cases z : y ∈ l
  · rw [decide_eq_true z]
    exact (if_pos rfl).mpr (t z)
  · rw [decide_eq_false z]
    exact (if_neg Bool.false_ne_true).mpr (f z)
theorem nin_strs {l : List Str} {y : Str} {A B : Prop} (t : y ∉ l → A) (f : y ∈ l → B) : if (!inV (.str y) (l.map V.str)) = true then A else B := by
  rw [in_words]
  by_cases z : y ∈ l
  · rw [decide_eq_true z]
    exact (if_neg Bool.false_ne_true).mpr (f z)
  · rw [decide_eq_false z]
    exact (if_pos rfl).mpr (t z)
end Cm

namespace K04
open PySem L2 Cm
theorem plains_const {sc : Nat → Str → Bool} {B : Str → Bool} (e : ∀ j, sc j = B) : ∀ (i : Nat) (ps : List Tr), Tr.plains sc i ps = ps.map fun t => t.plain B
  | _, [] => rfl
  | i, t :: ts => by
    show t.plain (sc i) :: Tr.plains sc (i + 1) ts = t.plain B :: ts.map fun t => t.plain B
    rw [e i, plains_const e (i + 1) ts]
theorem anew_eq {h : Hd} {ps : List Tr} (S : List Str) (e : ∀ x ∈ held h, (∃ j t, ps[j]? = some t ∧ x ∈ under h ps.length j ∧ x ∈ t.free true) ↔ x ∈ S) : anewOf h ps = (held h).filter fun x => decide (x ∈ S) := by
  unfold anewOf
  refine List.filter_congr fun x m => ?_
  rw [Bool.eq_iff_iff, decide_eq_true_eq, chg_iff, ← e x m]
  constructor
  · rintro ⟨j, t, a, b, c⟩
    exact ⟨j, t, a, by rwa [Nat.zero_add] at b, c⟩
  · rintro ⟨j, t, a, b, c⟩
    exact ⟨j, t, a, by rwa [Nat.zero_add], c⟩
theorem noLet (xs : List Str) : isLet (.bind "rec" xs) = false := by
  show decide (("rec" : Str) = "let") = false
  decide +kernel
theorem anew_rec (xs : List Str) (ps : List Tr) : anewOf (.bind "rec" xs) ps = xs.filter fun x => decide (x ∈ ps.flatMap (Tr.free true)) := by
  refine anew_eq (h := .bind "rec" xs) _ fun x m => ?_
  rw [List.mem_flatMap]
  constructor
  · rintro ⟨j, t, a, _, c⟩
    exact ⟨t, List.mem_of_getElem? a, c⟩
  · rintro ⟨t, a, c⟩
    obtain ⟨j, e⟩ := List.getElem?_of_mem a
    exact ⟨j, t, e, by rw [under_no (h := .bind "rec" xs) (noLet xs)]; exact m, c⟩
theorem scope_law (pl : List Str) {h : Hd} {n i : Nat} {anew : List Str} (eu : under h n i = held h) (sub : ∀ x ∈ anew, x ∈ held h) : inB (pl.filter (fun x => !decide (x ∈ held h)) ++ anew) = scopeP (inB pl) h n anew i := by
  rw [← scope_eq, eu, List.filter_eq_self.mpr fun x m => decide_eq_true (sub x m)]
theorem flat_take {c : Tr} {ps : List Tr} {i : Nat} (e : ps[i]? = some c) : (ps.take (i + 1)).flatMap (Tr.free true) = (ps.take i).flatMap (Tr.free true) ++ c.free true := by
  rw [take_one e, List.flatMap_append]
  simp
theorem flat_len : ∀ ps : List Tr, (ps.flatMap (Tr.free true)).length ≤ Tr.sizes ps
  | [] => Nat.le_refl _
  | t :: ts => by
    have := flat_len ts
    have := free_len true t
    rw [List.flatMap_cons, List.length_append]
    show _ ≤ t.size + Tr.sizes ts
    omega
def spLPlain (K : PySem.W.Frag) (n : Nat) : Sp := fun vs H Q _ => ∃ (v : V) (hb : Addr) (t : Tr) (pl : List Str), vs = [v, .ref hb] ∧ Dp K H v t.enc ∧ t.ok ∧ t.nw ∧ t.dep ≤ n ∧ n ≤ 70 ∧ t.size ≤ 1000000 ∧ H hb = some (.lst (pl.map V.str)) ∧ pl.length + 10 * n ≤ 10000 ∧
  ∀ (r : V) (H' : Hp), Same H H' → Dp K H' r (t.plain (inB pl)).enc → Q r H'
def spLRec (K : PySem.W.Frag) (n : Nat) : Sp := fun vs H Q _ => ∃ (v : V) (hb hl : Addr) (xs pl : List Str) (ps : List Tr), vs = [v, .ref hb, .ref hl] ∧ Dp K H v (Tr.mk (.bind "rec" xs) ps).enc ∧ (Tr.mk (.bind "rec" xs) ps).ok ∧ Tr.nws ps ∧ Tr.deps ps ≤ n ∧ n ≤ 70 ∧ Tr.sizes ps ≤ 1000000 ∧
  H hb = some (.lst (pl.map V.str)) ∧ H hl = some (.lst (xs.map V.str)) ∧ pl.length + 10 * (n + 1) ≤ 10000 ∧
  ∀ (r : V) (H' : Hp), Same H H' → Dp K H' r ((Tr.mk (.bind "rec" xs) ps).plain (inB pl)).enc → Q r H'
theorem frowT (r : Str × Tr) : flatD (.tuple [.str r.1, r.2.enc]) = true := by simp [flatD, flatDs, flat_enc]
theorem map_snd_zip_take {α β : Type} : ∀ (xs : List α) (ys : List β), (xs.zip ys).map (·.2) = ys.take xs.length
  | [], ys => rfl
  | x :: xs, [] => rfl
  | x :: xs, y :: ys => by
    show y :: (xs.zip ys).map (·.2) = y :: ys.take xs.length
    rw [map_snd_zip_take xs ys]
section
variable {P : Program} {w : World} {K : PySem.W.Frag} {mg : Str → Option Value} {base : Heap}
abbrev s_l_plain_rec : Stmt := top 38
abbrev N_l_plain_rec : List Str := ["_law_tree", "_law_pairs", "_law_held", "_law_sets_here", "_law_part", "_law_mine", "_law_name", "_law_scope", "_law_rows", "_law_right", "_law_body", "_law_stores"]
theorem sc_l_plain_rec : FnScope N_l_plain_rec ["_law_tree", "_law_pairs", "_law_held"] (defScope s_l_plain_rec) := ⟨rfl, rfl, rfl, by decide +kernel, rfl, by decide +kernel, by decide +kernel⟩
theorem ok_l_plain_rec {n m : Nat} (hm : 73 ≤ m) (T : Txt mg) (c_l_parts : Cl P w K mg base 1 "_law_parts" (spPartsL K)) (c_l_sets : Cl P w K mg base 72 "_law_sets" (spSets K 70)) (c_l_plain : Cl P w K mg base m "_law_plain" (spLPlain K n)) (D : At K mg "_law_plain_rec" s_l_plain_rec ["_law_tree", "_law_pairs", "_law_held"]) : Cl P w K mg base (m + 1) "_law_plain_rec" (spLRec K n) := by
  refine cl_of (k := m) D sc_l_plain_rec (fun vs H Q E h => ?_) fun f cdv A outer s H vs Q E hr h => ?_
  · obtain ⟨v, hb, hl, xs, pl, ps, rfl, _⟩ := h
    rfl
  · obtain ⟨v, hb, hl, xs, pl, ps, rfl, hd, o, nw, hdep, hn70, hsz, hhb, hhl, hlen, k⟩ := h
    obtain ⟨o1, o2, o3⟩ := ok_mk' o
    have n3 := nws_iff.mp nw
    have hpl : ps.length = xs.length + 1 := o1.1
    have fle : flatDs (Tr.encL ps) = true := flat_encL ps
    obtain ⟨a, its, rfl, hs, hx⟩ := view (h := .bind "rec" xs) (ds := Tr.encL ps) hd
    have hu := hu_of hr
    have dpm : ∀ c ∈ ps, c.dep ≤ n := fun c m => deps_le.mp hdep c m
    refine ⟨_, (pss_cons (ps_set (i := 3) sc_l_plain_rec.nd rfl (Or.inr rfl) (pe_lst pa_nil))
      (pss_cons (ps_for PassesOwn.never rfl (pi_list (pe_c c_l_parts hr (by omega) (by rfl) (pa_cons (pv 0) pa_nil))) (pg_name (i := 4) sc_l_plain_rec.nd rfl (Or.inl rfl))
        (pss_one (ps_set (i := 3) sc_l_plain_rec.nd rfl (Or.inr rfl) (pe_op op_cat (pv 3) (pe_c c_l_sets hr (by omega) (by rfl) (pa_cons (pv 4) pa_nil))))))
      (pss_cons (ps_set (i := 5) sc_l_plain_rec.nd rfl (Or.inr rfl) (pe_lc (own := [("_law_name", 6)]) rfl sc_l_plain_rec.nd (pi_list (pv 2)) (blkOk_by (N := N_l_plain_rec) (sc := defScope s_l_plain_rec) (by decide +kernel))
      (fun _ _ _ _ _ => (pg_name (i := 6) sc_l_plain_rec.nd rfl (Or.inl rfl)))
      (fun _ _ _ _ _ => (pts_one (pt_cmpR (ko_in (K := K)) (pv 6) (pv 3) (by rfl))))
      (fun _ _ _ _ _ => (pv 6))))
      (pss_cons (ps_set (i := 7) sc_l_plain_rec.nd rfl (Or.inr rfl) (pe_op op_cat (pe_lc (own := [("_law_name", 6)]) rfl sc_l_plain_rec.nd (pi_list (pv 1)) (blkOk_by (N := N_l_plain_rec) (sc := defScope s_l_plain_rec) (by decide +kernel))
      (fun _ _ _ _ _ => (pg_name (i := 6) sc_l_plain_rec.nd rfl (Or.inl rfl)))
      (fun _ _ _ _ _ => (pts_one (pt_cmpR (ko_notIn (K := K)) (pv 6) (pv 2) (by rfl))))
      (fun _ _ _ _ _ => (pv 6))) (pv 5)))
      (pss_cons (ps_set (i := 8) sc_l_plain_rec.nd rfl (Or.inl rfl) (pe_tupleOf (by rfl) T.tuple (pe_lc (own := [("_law_name", 6), ("_law_right", 9)]) (g := gTup K 2 (gCons (gName 6) (gCons (gName 9) gNil))) rfl sc_l_plain_rec.nd (pi_tup (pe_ix ix_tup (pv 0) pe_int (fun _ _ => rfl))) (blkOk_by (N := N_l_plain_rec) (sc := defScope s_l_plain_rec) (by decide +kernel))
      (fun _ _ _ _ _ => (pg_tup rfl (pgs_cons (pg_name (i := 6) sc_l_plain_rec.nd rfl (Or.inl rfl)) (pgs_cons (pg_name (i := 9) sc_l_plain_rec.nd rfl (Or.inl rfl)) pgs_nil))))
      (fun _ _ _ _ _ => (pts_one (pt_cmpR (ko_notIn (K := K)) (pv 6) (pv 5) (by rfl))))
      (fun _ _ _ _ _ => (pe_tup (pa_cons (pv 6) (pa_cons (pe_c c_l_plain hr (by omega) (by rfl) (pa_cons (pv 9) (pa_cons (pv 7) pa_nil))) pa_nil)))))))
      (pss_cons (ps_set (i := 10) sc_l_plain_rec.nd rfl (Or.inl rfl) (pe_c c_l_plain hr (by omega) (by rfl) (pa_cons (pe_ix ix_tup (pv 0) pe_int (fun _ _ => rfl)) (pa_cons (pv 7) pa_nil))))
      (pss_cons (ps_if (pt_cmpR (op_eqD hr.units) (pv 5) (pe_lst pa_nil) (nomark _))
        (pss_one (ps_ret (pe_tup (pa_cons pe_str (pa_cons (pv 8) (pa_cons (pv 10) pa_nil))))))
        pss_nil)
      (pss_cons (ps_setLc (i := 11) (own := [("_law_name", 6), ("_law_right", 9)]) (g := gTup K 2 (gCons (gName 6) (gCons (gName 9) gNil))) rfl sc_l_plain_rec.nd rfl rfl (sw_true rfl rfl rfl (by decide +kernel)) (pi_tup (pe_ix ix_tup (pv 0) pe_int (fun _ _ => rfl))) (blkOk_by (N := N_l_plain_rec) (sc := defScope s_l_plain_rec) (by decide +kernel))
      (fun _ _ _ _ _ => (pg_tup rfl (pgs_cons (pg_name (i := 6) sc_l_plain_rec.nd rfl (Or.inl rfl)) (pgs_cons (pg_name (i := 9) sc_l_plain_rec.nd rfl (Or.inl rfl)) pgs_nil))))
      (fun _ _ _ _ _ => (pts_one (pt_cmpR (ko_in (K := K)) (pv 6) (pv 5) (by rfl))))
      (fun _ _ _ _ _ => (pe_tup (pa_cons pe_str (pa_cons pe_str (pa_cons (pe_tup (pa_cons (pe_tup (pa_cons pe_str (pa_cons (pv 6) pa_nil))) (pa_cons (pe_c c_l_plain hr (by omega) (by rfl) (pa_cons (pv 9) (pa_cons (pv 7) pa_nil))) pa_nil))) pa_nil))))))
      (pss_cons (ps_set (i := 10) sc_l_plain_rec.nd rfl (Or.inl rfl) (pe_tup (pa_cons pe_str (pa_cons (pe_tupleOf (by rfl) T.tuple (pe_op op_cat (pv 11) (pe_lst (pa_cons (pv 10) pa_nil)))) pa_nil))))
      (pss_mid (ps_if (pt_cmpR op_gt (pe_callB call_len_seq (by rfl) T.len (by decide +kernel) (pa_cons (pv 8) pa_nil)) pe_int (nomark _))
        (pss_one (ps_set (i := 10) sc_l_plain_rec.nd rfl (Or.inl rfl) (pe_tup (pa_cons pe_str (pa_cons (pv 8) (pa_cons (pv 10) pa_nil))))))
        pss_nil)
      (pss_one (ps_ret (pe_tup (pa_cons pe_str (pa_cons (pe_tupleOf (by rfl) T.tuple (pe_lc (own := [("_law_name", 6)]) rfl sc_l_plain_rec.nd (pi_list (pv 5)) (blkOk_by (N := N_l_plain_rec) (sc := defScope s_l_plain_rec) (by decide +kernel))
      (fun _ _ _ _ _ => (pg_name (i := 6) sc_l_plain_rec.nd rfl (Or.inl rfl)))
      (fun _ _ _ _ _ => pts_nil)
      (fun _ _ _ _ _ => (pe_tup (pa_cons (pv 6) (pa_cons (pe_tup (pa_cons pe_str (pa_cons pe_str (pa_cons (pe_tup (pa_cons (pe_tup (pa_cons pe_str pa_nil)) (pa_cons (pe_tup (pa_cons pe_str pa_nil)) pa_nil))) pa_nil)))) pa_nil)))))) (pa_cons (pv 10) pa_nil)))))))))))))))), ?_⟩
    obtain ⟨q, rows, vs, rfl, hq, hrows, hv⟩ := hx
    obtain ⟨pL, epL⟩ : ∃ p, ps[xs.length]? = some p := ⟨ps[xs.length]'(by omega), List.getElem?_eq_getElem _⟩
    have pLm : pL ∈ ps := List.mem_of_getElem? epL
    have edrop : ps.drop xs.length = [pL] := by
      obtain ⟨hx, e⟩ := List.getElem?_eq_some_iff.mp epL
      rw [List.drop_eq_getElem_cons hx, e, List.drop_of_length_le (by omega)]
    rw [encL_map, ← List.map_drop, edrop] at hv
    obtain ⟨ul, rfl, hul⟩ := dpAll_one (d := pL.enc) hv
    have lrows : rows.length = xs.length := by
      have := DpAll.len hrows
      rw [List.length_map, List.length_zip, encL_len] at this
      omega
    obtain ⟨S, hS⟩ : ∃ S, S = ps.flatMap (Tr.free true) := ⟨_, rfl⟩
    obtain ⟨mine, hmine⟩ : ∃ mine, mine = xs.filter fun x => decide (x ∈ S) := ⟨_, rfl⟩
    have mle : mine.length ≤ xs.length := by rw [hmine]; exact List.length_filter_le _ _
    obtain ⟨sco, hsco⟩ : ∃ sco, sco = pl.filter (fun x => !decide (x ∈ xs)) ++ mine := ⟨_, rfl⟩
    have scole : sco.length ≤ pl.length + 10 := by
      rw [hsco, List.length_append]
      have := List.length_filter_le (fun x => !decide (x ∈ xs)) pl
      omega
    obtain ⟨qs, hqs⟩ : ∃ qs, qs = ps.map fun t => t.plain (inB sco) := ⟨_, rfl⟩
    obtain ⟨Z, hZ⟩ : ∃ Z, Z = xs.zip qs := ⟨_, rfl⟩
    have lqs : qs.length = ps.length := by rw [hqs, List.length_map]
    have lZ : Z.length = xs.length := by rw [hZ, List.length_zip]; omega
    have eplain : (Tr.mk (.bind "rec" xs) ps).plain (inB pl) = if mine = [] then Tr.mk (.bind "rec" xs) qs else recP xs mine qs := by
      show shapeP (inB pl) (anewOf (.bind "rec" xs) ps) (Tr.plains (scopeP (inB pl) (.bind "rec" xs) ps.length (anewOf (.bind "rec" xs) ps)) 0 ps) (.bind "rec" xs) = _
      rw [anew_rec xs ps, ← hS, ← hmine, plains_const (B := inB sco) (fun j => by
        rw [hsco]
        exact (scope_law pl (h := .bind "rec" xs) (under_no (noLet xs) _ _) (fun x m => by rw [hmine] at m; exact (List.mem_filter.mp m).1)).symm), ← hqs]
      show (if ("rec" : Str) = "rec" ∧ mine ≠ [] then recP xs mine qs else wrapL mine (.bind "rec" xs) qs) = _
      by_cases z : mine = []
      · rw [z, if_neg (fun z => z.2 rfl), if_pos rfl]
        rfl
      · rw [if_pos ⟨rfl, z⟩, if_neg z]
    rw [eplain] at k
    have edropq : qs.drop xs.length = [pL.plain (inB sco)] := by rw [hqs, ← List.map_drop, edrop]; rfl
    have rowAt : ∀ {H' : Hp} {i : Nat} {x0 : V}, Same H H' → rows[i]? = some x0 → ∃ x c t u, x0 = .ref t ∧ SqT K H' t [.str x, u] ∧ Dp K H' u c.enc ∧ c ∈ ps ∧ Z[i]? = some (x, c.plain (inB sco)) := by
      intro H' i x0 s' ex
      obtain ⟨d, g1, g2⟩ := DpAll.atV (dps_same s' _ _ hrows) ex
      obtain ⟨⟨x, e⟩, er, rfl⟩ := map_at g1
      obtain ⟨g3, g4⟩ := List.getElem?_zip_eq_some.mp er
      obtain ⟨c, ec, rfl⟩ := encL_at' g4
      obtain ⟨t, u, rfl, ht, hu⟩ := dp_row g2
      refine ⟨x, c, t, u, rfl, ht, hu, List.mem_of_getElem? ec, ?_⟩
      rw [hZ, hqs]
      exact List.getElem?_zip_eq_some.mpr ⟨g3, by rw [List.getElem?_map, ec]; rfl⟩
    refine ⟨by show 0 ≤ sizeLine; decide, fun L0 hL0 => ?_⟩
    have s0 := same_new (o := .lst ([] : List V)) hL0
    refine ⟨_, rfl, .ref a, .bind "rec" xs, Tr.encL ps, rfl, dp_same s0 _ _ hd, by rw [encL_len]; exact o1, fle, by rw [encL_len]; omega, fun P0 us H1 s1 _ hP hus => ?_⟩
    have hul0 := DpAll.len hus
    rw [encL_len] at hul0
    refine ⟨P0, rfl, ⟨_, .inl (.inl hP)⟩, ?_⟩
    refine for_it (walk_list (xs := us)) (fun i σ H' => ∃ (F : Addr) (v4 : Option V), σ = [some (.ref a), some (.ref hb), some (.ref hl), some (.ref F), v4, none, none, none, none, none, none, none] ∧ Same H1 H' ∧ H' F = some (.lst (((ps.take i).flatMap (Tr.free true)).map V.str)))
      ⟨L0, none, rfl, Same.refl _, s1 _ _ upd_same⟩ (fun i σ H' _ z => ?_) ?_ ?_
    · obtain ⟨_, _, _, z, _⟩ := z
      exact .inl (.inl (z _ _ hP))
    · rintro i x σ H2 H2' hi ⟨F, v4, rfl, s2, hF⟩ ⟨rfl, e2⟩
      obtain ⟨d, g1, g2⟩ := DpAll.atV hus e2
      obtain ⟨c, ec, rfl⟩ := encL_at' g1
      have hcm : c ∈ ps := List.mem_of_getElem? ec
      have szc := sizeMem hcm
      have hst := sizes_take' ps i
      have hfl := flat_len (ps.take i)
      have hcl := free_len true c
      refine ⟨_, rfl, _, rfl, x, c, rfl, dp_same s2 _ _ g2, o3 c hcm, Nat.le_trans (dpm c hcm) hn70, by omega, fun l2 H3 s3 nl2 hl2 => ?_⟩
      refine ⟨F, l2, _, _, rfl, rfl, s3 _ _ hF, hl2, ?_, fun F2 hF2 => ?_⟩
      · rw [List.length_map, List.length_map, sizeLine_eq]
        omega
      · refine ⟨F2, _, rfl, (s2.trans s3).trans (same_new hF2), ?_⟩
        rw [upd_same, flat_take ec, List.map_append]
    · rintro σ H2 ⟨F, v4, rfl, s2, hF⟩
      rw [List.take_of_length_le (by omega), ← hS] at hF
      have S2 := (s0.trans s1).trans s2
      have hhl2 := S2 _ _ hhl
      clear hus hP
      refine ⟨_, rfl, hl, rfl, ⟨_, .inl (.inl hhl2)⟩, fun D1 hD1 => ?_⟩
      refine lc_filt (K := K) xs (fun x => decide (x ∈ S)) (walk_list (K := K) (a := hl) (xs := xs.map V.str)) hD1 (by omega) (fun H' s => .inl (.inl (s _ _ hhl2))) ?_ ?_
      · intro y H3 hy s3 Q1 Q0 q1 q0
        refine ⟨rfl, _, rfl, _, rfl, F, _, rfl, .inl (.inl (.inl (s3 _ _ hF))), rfl, flat_strV _, _, rfl, ?_⟩
        exact in_strs (fun z => ⟨_, rfl, q1 _ (Same.refl _) (decide_eq_true z)⟩) (fun z => q0 _ (Same.refl _) (decide_eq_false z))
      intro H3 s3 hmi
      rw [← hmine] at hmi
      have S3 := S2.trans s3
      have hhb3 := S3 _ _ hhb
      have hhl3 := S3 _ _ hhl
      clear hF
      refine ⟨_, rfl, hb, rfl, ⟨_, .inl (.inl hhb3)⟩, fun D2 hD2 => ?_⟩
      refine lc_filt (K := K) pl (fun x => !decide (x ∈ xs)) (walk_list (K := K) (a := hb) (xs := pl.map V.str)) hD2 (by omega) (fun H' s => .inl (.inl (s _ _ hhb3))) ?_ ?_
      · intro y H4 hy s4 Q1 Q0 q1 q0
        refine ⟨rfl, _, rfl, _, rfl, hl, _, rfl, .inl (.inl (.inl (s4 _ _ hhl3))), rfl, flat_strV _, _, rfl, ?_⟩
        exact nin_strs (fun z => ⟨_, rfl, q1 _ (Same.refl _) (by rw [decide_eq_false z]; rfl)⟩) (fun z => q0 _ (Same.refl _) (by rw [decide_eq_true z]; rfl))
      intro H4 s4 hou
      refine ⟨_, rfl, D2, D1, _, _, rfl, rfl, hou, s4 _ _ hmi, ?_, fun D3 hD3 => ?_⟩
      · have := List.length_filter_le (fun x => !decide (x ∈ xs)) pl
        rw [List.length_map, List.length_map, sizeLine_eq]
        omega
      have s5 := same_new (o := .lst ((pl.filter (fun x => !decide (x ∈ xs))).map V.str ++ mine.map V.str)) hD3
      have esc : upd H4 D3 (.lst ((pl.filter (fun x => !decide (x ∈ xs))).map V.str ++ mine.map V.str)) D3 = some (.lst (sco.map V.str)) := by rw [upd_same, hsco, List.map_append]
      have hmi5 := s5 _ _ (s4 _ _ hmi)
      have S5 := (S3.trans s4).trans s5
      generalize upd H4 D3 (.lst ((pl.filter (fun x => !decide (x ∈ xs))).map V.str ++ mine.map V.str)) = H5 at *
      have hs5 := sqt_same S5 hs
      have hq5 := sqt_same S5 hq
      refine ⟨_, rfl, a, _, _, _, rfl, rfl, hs5, atI_nat (j := 1) rfl, q, rfl, ⟨_, hq5⟩, fun D4 hD4 => ?_⟩
      refine lc_data (K := K) (walk_tup (K := K) (a := q) (xs := rows)) (fun i => (Z[i]?).bind fun r => if (!decide (r.1 ∈ mine)) = true then some (PyData.tuple [.str r.1, r.2.enc]) else none) hD4 (by omega) (fun H' s => sqt_same s hq5) (fun i _ d e => ?_) ?_ ?_
      · obtain ⟨b, _, e⟩ := Option.bind_eq_some_iff.mp e
        split at e
        · cases e; exact frowT _
        · cases e
      · rintro i x0 H6' H6 hi s6 ⟨rfl, ex⟩ Q1 Q0 q1 q0
        obtain ⟨x, c, t, u, rfl, ht, hu, hcm, er⟩ := rowAt (S5.trans s6) ex
        refine ⟨t, _, rfl, ht, rfl, _, _, rfl, _, _, rfl, rfl, rfl, _, rfl, _, rfl, D1, _, rfl, .inl (.inl (.inl (s6 _ _ hmi5))), rfl, flat_strV _, _, rfl, ?_⟩
        refine nin_strs (fun z => ?_) (fun z => q0 _ (by rw [er]; exact if_neg (by rw [decide_eq_true z]; exact Bool.false_ne_true)) (Same.refl _))
        have szc := sizeMem hcm
        refine ⟨_, rfl, _, rfl, _, rfl, u, D3, c, sco, rfl, hu, o3 c hcm, n3 c hcm, dpm c hcm, hn70, by omega, s6 _ _ esc, by omega, fun r H7 s7 dr => ⟨by show 2 ≤ sizeLine; decide, fun p hp => ?_⟩⟩
        have s8 := same_new (o := .tup [V.str x, r]) hp
        exact q1 _ _ (PyData.tuple [.str x, (c.plain (inB sco)).enc]) (by rw [er]; exact if_pos (by rw [decide_eq_false z]; rfl)) (s7.trans s8) (.tup (.inl (.inl upd_same)) (.cons (.str _) (.cons (dp_same s8 _ _ dr) .nil)))
      intro H6 ot s6 hot dot
      rw [lrows, ← lZ, range_rows (fun r : Str × Tr => PyData.tuple [.str r.1, r.2.enc]) (fun r => !decide (r.1 ∈ mine))] at dot
      refine .inl ⟨D4, ot, rfl, .inl (.inl hot), fun t7 ht7 => ?_⟩
      have s7 := same_new (o := .tup ot) ht7
      have eo7 : upd H6 t7 (.tup ot) t7 = some (.tup ot) := upd_same
      have dot7 := dps_same s7 _ _ dot
      have S7 := (S5.trans s6).trans s7
      have esc7 := (s6.trans s7) _ _ esc
      have hmi7 := (s6.trans s7) _ _ hmi5
      generalize upd H6 t7 (.tup ot) = H7 at *
      have szL := sizeMem pLm
      refine ⟨_, rfl, a, _, _, _, rfl, rfl, sqt_same S7 hs, atI_nat (j := 2) rfl, _, rfl, ul, D3, pL, sco, rfl, dp_same S7 _ _ hul, o3 pL pLm, n3 pL pLm, dpm pL pLm, hn70, by omega, esc7, by omega, fun bo H8 s8 dbo => ?_⟩
      have S8 := S7.trans s8
      have eo8 := s8 _ _ eo7
      have dot8 := dps_same s8 _ _ dot7
      have hmi8 := s8 _ _ hmi7
      have lay1 : Lay 2 (.list (mine.map PyData.str)) := Lay.lst fun d hd => by
        obtain ⟨z, hz, rfl⟩ := List.mem_map.mp hd
        exact .str (o1.2.2 z (by rw [hmine] at hz; exact (List.mem_filter.mp hz).1)) 1
      refine ⟨_, rfl, by show 0 ≤ sizeLine; decide, fun e he => ⟨.list (mine.map PyData.str), .list [], .lst (.inl (.inl ((same_new he) _ _ hmi8))) (dpAll_strs mine), .lst (.inl (.inl upd_same)) .nil, lay1.sh (by decide), (Lay.lst (n := 1) (ds := []) (fun _ m => by cases m)).sh (by decide), _, rfl, ?_⟩⟩
      have s9 := same_new (o := .lst ([] : List V)) he
      have S9 := S8.trans s9
      have eo9 := s9 _ _ eo8
      have dot9 := dps_same s9 _ _ dot8
      have hmi9 := s9 _ _ hmi8
      have dbo9 := dp_same s9 _ _ dbo
      have esc9 := (s8.trans s9) _ _ esc7
      generalize upd H8 e (.lst []) = H9 at *
      clear dot dot7 dot8 hmi hmi5 hmi7 hmi8 esc esc7 eo7 eo8 dbo
      have erec : ∀ oth : List (Str × Tr), oth = (Z.filter fun r => !decide (r.1 ∈ mine)) → ∀ {H' : Hp} {p : Addr} {vi : V} {inner : Tr}, Same H9 H' → SqT K H' p [V.str "rec", V.ref t7, vi] → Dp K H' vi inner.enc → Dp K H' (.ref p) (Tr.mk (.bind "rec" (oth.map (·.1))) (oth.map (·.2) ++ [inner])).enc := by
        intro oth ho H' p vi inner s' hp hi
        subst ho
        rw [enc_bind _ _ _ _ (by rw [List.length_map, List.length_map])]
        refine .tup hp (.cons (.str _) (.cons (.tup (.inl (.inl (s' _ _ eo9))) ?_) (.cons hi .nil)))
        rw [List.zip_map', List.map_map]
        exact dps_same s' _ _ dot9
      by_cases em : mine = []
      · rw [if_pos em] at k
        have e0 : PyData.eqv (.list (mine.map PyData.str)) (.list []) = true := by rw [em]; simp [PyData.eqv, PyData.eqvAll]
        rw [e0]
        refine iteT ⟨_, rfl, _, rfl, by show 3 ≤ sizeLine; decide, fun p hp => ?_⟩
        have s10 := same_new (o := .tup [V.str "rec", V.ref t7, bo]) hp
        refine k _ _ (S9.trans s10) ?_
        have := erec _ rfl s10 (.inl (.inl upd_same)) (dp_same s10 _ _ dbo9)
        have ef : (Z.filter fun r => !decide (r.1 ∈ mine)) = Z := List.filter_eq_self.mpr fun r _ => by rw [em]; simp
        rw [ef] at this
        have e1 : Z.map (·.1) = xs := by rw [hZ]; exact List.map_fst_zip (by omega)
        have e2 : Z.map (·.2) ++ [pL.plain (inB sco)] = qs := by
          rw [← edropq, hZ, map_snd_zip_take, List.take_append_drop]
        rw [e1, e2] at this
        exact this
      · rw [if_neg em] at k
        have e0 : PyData.eqv (.list (mine.map PyData.str)) (.list []) = false := by
          cases mine with
          | nil => exact absurd rfl em
          | cons m1 m2 => simp [PyData.eqv, PyData.eqvAll]
        rw [e0]
        have hq9 := sqt_same S9 hq
        refine iteF ⟨_, rfl, a, _, _, _, rfl, rfl, sqt_same S9 hs, atI_nat (j := 1) rfl, q, rfl, ⟨_, hq9⟩, fun D5 hD5 => ?_⟩
        refine lc_data (K := K) (walk_tup (K := K) (a := q) (xs := rows)) (fun i => (Z[i]?).bind fun r => if decide (r.1 ∈ mine) = true then some (fillT r.1 r.2).enc else none) hD5 (by omega) (fun H' s => sqt_same s hq9) (fun i _ d e => ?_) ?_ ?_
        · obtain ⟨b, _, e⟩ := Option.bind_eq_some_iff.mp e
          split at e
          · cases e; exact flat_enc _
          · cases e
        · rintro i x0 H10' H10 hi s10 ⟨rfl, ex⟩ Q1 Q0 q1 q0
          obtain ⟨x, c, t, u, rfl, ht, hu, hcm, er⟩ := rowAt (S9.trans s10) ex
          refine ⟨t, _, rfl, ht, rfl, _, _, rfl, _, _, rfl, rfl, rfl, _, rfl, _, rfl, D1, _, rfl, .inl (.inl (.inl (s10 _ _ hmi9))), rfl, flat_strV _, _, rfl, ?_⟩
          refine in_strs (fun z => ?_) (fun z => q0 _ (by rw [er]; exact if_neg (by rw [decide_eq_false z]; exact Bool.false_ne_true)) (Same.refl _))
          have szc := sizeMem hcm
          refine ⟨_, rfl, by show 2 ≤ sizeLine; decide, fun p1 hp1 => ?_⟩
          have s11 := same_new (o := .tup [V.str "name", V.str x]) hp1
          refine ⟨_, rfl, _, rfl, u, D3, c, sco, rfl, dp_same s11 _ _ hu, o3 c hcm, n3 c hcm, dpm c hcm, hn70, by omega, s11 _ _ (s10 _ _ esc9), by omega, fun r H12 s12 dr => ⟨by show 2 ≤ sizeLine; decide, fun p2 hp2 => ⟨by show 3 ≤ sizeLine; decide, fun p3 hp3 => ?_⟩⟩⟩
          have s13 := same_new (o := .tup [V.ref p1, r]) hp2
          have s14 := same_new (o := .tup [V.str "op", V.str "left!", V.ref p2]) hp3
          exact q1 _ _ (fillT x (c.plain (inB sco))).enc (by rw [er]; exact if_pos (decide_eq_true z)) ((s11.trans s12).trans (s13.trans s14)) (.tup (.inl (.inl upd_same)) (.cons (.str _) (.cons (.str _) (.cons (.tup (.inl (.inl (s14 _ _ upd_same))) (.cons (.tup (.inl (.inl ((s12.trans (s13.trans s14)) _ _ upd_same))) (.cons (.str _) (.cons (.str _) .nil))) (.cons (dp_same (s13.trans s14) _ _ dr) .nil))) .nil))))
        intro H10 fl s10 hfl dfl
        rw [lrows, ← lZ, range_rows (fun r : Str × Tr => (fillT r.1 r.2).enc) (fun r => decide (r.1 ∈ mine))] at dfl
        have lfl := DpAll.len dfl
        have lfl2 : fl.length ≤ 20 := by
          rw [lfl, List.length_map]
          have := List.length_filter_le (fun r : Str × Tr => decide (r.1 ∈ mine)) Z
          omega
        refine ⟨_, rfl, _, rfl, by show 1 ≤ sizeLine; decide, fun Lx hLx => ?_⟩
        have s11 := same_new (o := .lst [bo]) hLx
        refine ⟨D5, Lx, _, _, rfl, rfl, s11 _ _ hfl, upd_same, Nat.le_trans (show fl.length + 1 ≤ 1000 by omega) (by decide), fun Ly hLy => ?_⟩
        have s12 := same_new (o := .lst (fl ++ [bo])) hLy
        refine .inl ⟨Ly, _, rfl, .inl (.inl upd_same), fun t13 ht13 => ⟨by show 2 ≤ sizeLine; decide, fun t14 ht14 => ?_⟩⟩
        have s13 := same_new (o := .tup (fl ++ [bo])) ht13
        have s14 := same_new (o := .tup [V.str "do", V.ref t13]) ht14
        have s34 := s13.trans s14
        have s14' := (s11.trans s12).trans s34
        obtain ⟨oth, hoth⟩ : ∃ oth, oth = Z.filter fun r => !decide (r.1 ∈ mine) := ⟨_, rfl⟩
        obtain ⟨inner, hinner⟩ : ∃ t, t = Tr.mk .doo (((Z.filter fun r => decide (r.1 ∈ mine)).map fun r => fillT r.1 r.2) ++ qs.drop xs.length) := ⟨_, rfl⟩
        obtain ⟨H14, hH14⟩ : ∃ H14, H14 = upd (upd (upd (upd H10 Lx (.lst [bo])) Ly (.lst (fl ++ [bo]))) t13 (.tup (fl ++ [bo]))) t14 (.tup [V.str "do", V.ref t13]) := ⟨_, rfl⟩
        have din : Dp K H14 (.ref t14) inner.enc := by
          rw [hinner, hH14]
          refine .tup (.inl (.inl upd_same)) (.cons (.str _) (.cons (.tup (.inl (.inl (s14 _ _ upd_same))) ?_) .nil))
          rw [edropq, encL_map, List.map_append, List.map_map]
          exact DpAll.app (dps_same s14' _ _ dfl) (.cons (dp_same (s10.trans s14') _ _ dbo9) .nil)
        have S14 : Same H10 H14 := by rw [hH14]; exact s14'
        rw [← hH14]
        clear hH14
        have S9e := s10.trans S14
        have S14b := S9.trans S9e
        have dot14 := dps_same S9e _ _ dot9
        have hmi14 := S9e _ _ hmi9
        have eemp : ot.length = oth.length := by
          have := DpAll.len dot14
          rwa [List.length_map, ← hoth] at this
        obtain ⟨inner2, hin2⟩ : ∃ t, t = if oth = [] then inner else Tr.mk (.bind "rec" (oth.map (·.1))) (oth.map (·.2) ++ [inner]) := ⟨_, rfl⟩
        refine ⟨fun σ' H' => ∃ vi : V, σ' = [some (.ref a), some (.ref hb), some (.ref hl), some (.ref F), v4, some (.ref D1), none, some (.ref D3), some (.ref t7), none, some vi, some (.ref D5)] ∧ Same H14 H' ∧ Dp K H' vi inner2.enc, ?_, ?_⟩
        · refine ⟨_, rfl, t7, _, rfl, .inr (.inl (.inl (S9e _ _ eo9))), _, _, rfl, rfl, _, rfl, ?_⟩
          by_cases eo : oth = []
          · have : ¬ (0 : Int) < (ot.length : Int) := by rw [eemp, eo]; simp
            show if decide ((0 : Int) < (ot.length : Int)) = true then _ else _
            rw [decide_eq_false this]
            refine iteF ⟨_, rfl, Same.refl _, ?_⟩
            rw [hin2, if_pos eo]
            exact din
          · have : (0 : Int) < (ot.length : Int) := by
              have : oth.length ≠ 0 := fun e => eo (List.length_eq_zero_iff.mp e)
              omega
            show if decide ((0 : Int) < (ot.length : Int)) = true then _ else _
            rw [decide_eq_true this]
            refine iteT ⟨_, rfl, _, rfl, by show 3 ≤ sizeLine; decide, fun t15 ht15 => ?_⟩
            have s15 := same_new (o := .tup [V.str "rec", V.ref t7, V.ref t14]) ht15
            refine ⟨_, rfl, s15, ?_⟩
            rw [hin2, if_neg eo]
            exact erec _ hoth (S9e.trans s15) (.inl (.inl upd_same)) (dp_same s15 _ _ din)
        · rintro σ1 H15 ⟨vi, rfl, s15, dvi⟩
          have hmi15 := s15 _ _ hmi14
          refine ⟨_, rfl, D1, rfl, ⟨_, .inl (.inl hmi15)⟩, fun D6 hD6 => ?_⟩
          refine lc_data (K := K) (walk_list (K := K) (a := D1) (xs := mine.map V.str)) (fun i => (mine[i]?).map fun x => PyData.tuple [.str x, (pairT noneT).enc]) hD6 (by rw [List.length_map]; omega) (fun H' s => .inl (.inl (s _ _ hmi15))) (fun i _ d e => ?_) ?_ ?_
          · obtain ⟨x, _, rfl⟩ := Option.map_eq_some_iff.mp e
            simp [flatD, flatDs, flat_enc]
          · rintro i x0 H16' H16 hi s16 ⟨rfl, ex⟩ Q1 Q0 q1 q0
            obtain ⟨y, ey, rfl⟩ := map_at ex
            refine ⟨rfl, iteT (B := Q0 H16) ⟨_, rfl, by show 1 ≤ sizeLine; decide, fun p1 hp1 => ⟨by show 1 ≤ sizeLine; decide, fun p2 hp2 => ⟨by show 2 ≤ sizeLine; decide, fun p3 hp3 => ⟨by show 3 ≤ sizeLine; decide, fun p4 hp4 => ⟨by show 2 ≤ sizeLine; decide, fun p5 hp5 => ?_⟩⟩⟩⟩⟩⟩
            have s1 := same_new (o := .tup [V.str "none"]) hp1
            have s2 := same_new (o := .tup [V.str "none"]) hp2
            have s3 := same_new (o := .tup [V.ref p1, V.ref p2]) hp3
            have s4 := same_new (o := .tup [V.str "op", V.str "pair", V.ref p3]) hp4
            have s5 := same_new (o := .tup [V.str y, V.ref p4]) hp5
            have s25 := ((s2.trans s3).trans s4).trans s5
            exact q1 _ _ (PyData.tuple [.str y, (pairT noneT).enc]) (by rw [ey]; rfl) (s1.trans s25) (.tup (.inl (.inl upd_same)) (.cons (.str _) (.cons (.tup (.inl (.inl (s5 _ _ upd_same))) (.cons (.str _) (.cons (.str _) (.cons (.tup (.inl (.inl ((s4.trans s5) _ _ upd_same))) (.cons (.tup (.inl (.inl (s25 _ _ upd_same))) (.cons (.str _) .nil)) (.cons (.tup (.inl (.inl (((s3.trans s4).trans s5) _ _ upd_same))) (.cons (.str _) .nil)) .nil))) .nil)))) .nil)))
          · intro H16 acc s16 hacc ha
            rw [List.length_map, Cm.range_map (fun x => PyData.tuple [.str x, (pairT noneT).enc])] at ha
            refine .inl ⟨D6, acc, rfl, .inl (.inl hacc), fun t17 ht17 => ?_⟩
            have s17 := same_new (o := .tup acc) ht17
            refine ⟨_, rfl, by show 3 ≤ sizeLine; decide, fun t18 ht18 => ?_⟩
            have s18 := same_new (o := .tup [V.str "let", V.ref t17, vi]) ht18
            have s178 := s17.trans s18
            refine k _ _ (((S14b.trans s15).trans s16).trans s178) ?_
            have er : recP xs mine qs = Tr.mk (.bind "let" mine) ((mine.map fun _ => pairT noneT) ++ [inner2]) := by
              rw [hin2, hoth, hinner, hZ]
              rfl
            rw [er, enc_bind _ _ _ _ (by rw [List.length_map])]
            refine .tup (.inl (.inl upd_same)) (.cons (.str _) (.cons (.tup (.inl (.inl (s18 _ _ upd_same))) ?_) (.cons (dp_same (s16.trans s178) _ _ dvi) .nil)))
            rw [rows_same (fun _ => pairT noneT)]
            exact dps_same s178 _ _ ha
end
end K04

namespace K04
open PySem L2 Cm
theorem in_K {h : Hd} {n : Nat} (o : hok h n) : inV (.str (wd h)) ((["fn", "keep", "once", "take"] : List Str).map V.str) = (isFn h || isTak h) := by
  rw [in_words]
  have other : kd h ≠ 4 → kd h ≠ 3 → decide (wd h ∈ (["fn", "keep", "once", "take"] : List Str)) = false := fun q1 q2 => by
    have key : ∀ c < 10, c ≠ 4 → c ≠ 3 → ∀ w ∈ Cm.wordsOf c, decide (w ∈ (["fn", "keep", "once", "take"] : List Str)) = false := by decide +kernel
    exact key _ (wd_mem o).1 q1 q2 _ (wd_mem o).2
  cases h with
  | fn xs =>
    show decide (("fn" : Str) ∈ _) = (true || _)
    exact decide_eq_true List.mem_cons_self
  | one w x =>
    have key : ∀ w ∈ oneW, decide (w ∈ (["fn", "keep", "once", "take"] : List Str)) = (false || !decide (w = ("set" : Str))) := by decide +kernel
    exact key w o.2.1
  | num i => exact other (Nat.ne_of_beq_eq_false rfl) (Nat.ne_of_beq_eq_false rfl)
  | name i => exact other (Nat.ne_of_beq_eq_false rfl) (Nat.ne_of_beq_eq_false rfl)
  | lit i => exact other (Nat.ne_of_beq_eq_false rfl) (Nat.ne_of_beq_eq_false rfl)
  | bind i _ => exact other (Nat.ne_of_beq_eq_false rfl) (Nat.ne_of_beq_eq_false rfl)
  | doo => exact other (Nat.ne_of_beq_eq_false rfl) (Nat.ne_of_beq_eq_false rfl)
  | call => exact other (Nat.ne_of_beq_eq_false rfl) (Nat.ne_of_beq_eq_false rfl)
  | op i => exact other (Nat.ne_of_beq_eq_false rfl) (Nat.ne_of_beq_eq_false rfl)
  | plain i => exact other (Nat.ne_of_beq_eq_false rfl) (Nat.ne_of_beq_eq_false rfl)
theorem wrap_last (anew : List Str) (h : Hd) (qs : List Tr) (q : Tr) : wrapL anew h (qs ++ [q]) = Tr.mk h (qs ++ [pairedT anew q]) := by
  unfold wrapL pairedT
  have e1 : (qs ++ [q]).length - 1 = qs.length := by rw [List.length_append]; rfl
  split
  · rfl
  · rw [e1, List.take_left, List.drop_left]
theorem anew_one {h : Hd} {p : Tr} (e : isLet h = false) : anewOf h [p] = (held h).filter fun x => decide (x ∈ p.free true) := by
  refine anew_eq _ fun x m => ?_
  constructor
  · rintro ⟨j, t, a, _, c⟩
    rw [List.mem_singleton.mp (List.mem_of_getElem? a)] at c
    exact c
  · intro c
    exact ⟨0, p, rfl, by rw [under_no e]; exact m, c⟩
theorem anew_let {h : Hd} {qs : List Tr} {p : Tr} (e : isLet h = true) : anewOf h (qs ++ [p]) = (held h).filter fun x => decide (x ∈ p.free true) := by
  have ln : (qs ++ [p]).length = qs.length + 1 := by rw [List.length_append]; rfl
  refine anew_eq _ fun x m => ?_
  constructor
  · rintro ⟨j, t, a, b, c⟩
    have hj := (List.getElem?_eq_some_iff.mp a).1
    unfold under at b
    by_cases z : j + 1 < (qs ++ [p]).length
    · rw [if_pos ⟨e, z⟩] at b
      cases b
    · have : j = qs.length := by omega
      subst this
      rw [List.getElem?_append_right (Nat.le_refl _), Nat.sub_self] at a
      cases a
      exact c
  · intro c
    refine ⟨qs.length, p, by rw [List.getElem?_append_right (Nat.le_refl _), Nat.sub_self]; rfl, ?_, c⟩
    unfold under
    rw [if_neg (fun z => by have := z.2; omega)]
    exact m
theorem anew_no {h : Hd} {ps : List Tr} (e : held h = []) : anewOf h ps = [] := by
  unfold anewOf
  rw [e]
  rfl
theorem plains_to {sc : Nat → Str → Bool} {B : Str → Bool} {n : Nat} (e : ∀ j, j < n → sc j = B) : ∀ (i : Nat) (ps : List Tr), i + ps.length ≤ n → Tr.plains sc i ps = ps.map fun t => t.plain B
  | _, [], _ => rfl
  | i, t :: ts, h => by
    rw [List.length_cons] at h
    show t.plain (sc i) :: Tr.plains sc (i + 1) ts = t.plain B :: ts.map fun t => t.plain B
    rw [e i (by omega), plains_to e (i + 1) ts (by omega)]
section
variable {P : Program} {w : World} {K : PySem.W.Frag} {mg : Str → Option Value} {base : Heap}
abbrev s_l_plain : Stmt := top 37
abbrev N_l_plain : List Str := ["_law_tree", "_law_pairs", "_law_word", "_law_held", "_law_mine", "_law_name", "_law_outer", "_law_rows", "_law_right", "_law_parts_here", "_law_part"]
theorem sc_l_plain : FnScope N_l_plain ["_law_tree", "_law_pairs"] (defScope s_l_plain) := ⟨rfl, rfl, rfl, by decide +kernel, rfl, by decide +kernel, by decide +kernel⟩
theorem ok_l_plain (T : Txt mg) (c_l_parts : Cl P w K mg base 1 "_law_parts" (spPartsL K)) (c_l_binds : Cl P w K mg base 1 "_law_binds" (spBinds K)) (c_l_sets : Cl P w K mg base 72 "_law_sets" (spSets K 70)) (c_l_paired : Cl P w K mg base 1 "_law_paired" (spPaired K))
    (Dr : At K mg "_law_plain_rec" s_l_plain_rec ["_law_tree", "_law_pairs", "_law_held"]) (D : At K mg "_law_plain" s_l_plain ["_law_tree", "_law_pairs"]) : ∀ n, Cl P w K mg base (2 * n + 75) "_law_plain" (spLPlain K n) := by
  intro n
  induction n with
  | zero =>
    refine cl_of (k := 74) D sc_l_plain (fun vs H Q E h => ?_) fun f cdv A outer s H vs Q E hr h => ?_
    · obtain ⟨v, hb, t, pl, rfl, _⟩ := h
      rfl
    · obtain ⟨v, hb, t, pl, _, _, _, _, z, _⟩ := h
      cases t with
      | mk hd ps => exact absurd z (by show ¬ (Tr.deps ps + 1 ≤ 0); omega)
  | succ n ih =>
    have c_l_plain_rec : Cl P w K mg base (2 * n + 76) "_law_plain_rec" (spLRec K n) := ok_l_plain_rec (by omega) T c_l_parts c_l_sets ih Dr
    refine cl_of (k := 2 * n + 76) D sc_l_plain (fun vs H Q E h => ?_) fun f cdv A outer s H vs Q E hr h => ?_
    · obtain ⟨v, hb, t, pl, rfl, _⟩ := h
      rfl
    · obtain ⟨v, hb, t, pl, rfl, hd, o, nw, hdep, hn70, hsz, hhb, hpl, k⟩ := h
      cases t with
      | mk h ps =>
      obtain ⟨o1, o2, o3⟩ := ok_mk' o
      have nw' : nwH h ∧ Tr.nws ps := nw
      have n3 := nws_iff.mp nw'.2
      have hsz' : Tr.sizes ps + 1 ≤ 1000000 := hsz
      obtain ⟨a, its, rfl, hs, hx⟩ := view hd
      have hu := hu_of hr
      have fle : flatDs (Tr.encL ps) = true := flat_encL ps
      have dpm : ∀ c ∈ ps, c.dep ≤ n := fun c m => dep_mk.mp hdep c m
      refine ⟨_, (pss_cons (ps_set (i := 2) sc_l_plain.nd rfl (Or.inl rfl) (pe_ix ix_tup (pv 0) pe_int (fun _ _ => rfl)))
      (pss_cons (ps_if (pt_cmpR op_eq (pv 2) pe_str (nomark _))
        (pss_one (ps_ret (pe_ifExp (pt_cmpR op_in_seq (pe_ix ix_tup (pv 0) pe_int (fun _ _ => rfl)) (pv 1) (by rfl)) (pe_tup (pa_cons pe_str (pa_cons pe_str (pa_cons (pe_tup (pa_cons (pv 0) pa_nil)) pa_nil)))) (pv 0))))
        pss_nil)
      (pss_cons (ps_if (pt_cmpR op_eq (pv 2) pe_str (nomark _))
        (pss_one (ps_ret (pe_tup (pa_cons pe_str (pa_cons pe_str (pa_cons (pe_tup (pa_cons (pe_tup (pa_cons pe_str (pa_cons (pe_ix ix_tup (pv 0) pe_int (fun _ _ => rfl)) pa_nil))) (pa_cons (pe_c ih hr (by omega) (by rfl) (pa_cons (pe_ix ix_tup (pv 0) pe_int (fun _ _ => rfl)) (pa_cons (pv 1) pa_nil))) pa_nil))) pa_nil))))))
        pss_nil)
      (pss_cons (ps_set (i := 3) sc_l_plain.nd rfl (Or.inr rfl) (pe_c c_l_binds hr (by omega) (by rfl) (pa_cons (pv 0) pa_nil)))
      (pss_cons (ps_if (pt_cmpR op_eq (pv 2) pe_str (nomark _))
        (pss_one (ps_ret (pe_c c_l_plain_rec hr (by omega) (by rfl) (pa_cons (pv 0) (pa_cons (pv 1) (pa_cons (pv 3) pa_nil))))))
        pss_nil)
      (pss_cons (ps_if (pt_inW (pv 2) (.cons (.cons (.cons (.cons .nil)))) (show 4 ≤ sizeLine by decide) (by rfl))
        (pss_cons (ps_setLc (i := 4) (own := [("_law_name", 5)]) rfl sc_l_plain.nd rfl rfl (sw_true rfl rfl rfl (by decide +kernel)) (pi_list (pv 3)) (blkOk_by (N := N_l_plain) (sc := defScope s_l_plain) (by decide +kernel))
      (fun _ _ _ _ _ => (pg_name (i := 5) sc_l_plain.nd rfl (Or.inl rfl)))
      (fun _ _ _ _ _ => (pts_one (pt_cmpR (ko_in (K := K)) (pv 5) (pe_c c_l_sets hr (by omega) (by rfl) (pa_cons (pe_ix (kx_tup (K := K)) (pv 0) pe_int (fun _ _ => rfl)) pa_nil)) (by rfl))))
      (fun _ _ _ _ _ => (pv 5)))
        (pss_cons (ps_setLc (i := 6) (own := [("_law_name", 5)]) rfl sc_l_plain.nd rfl rfl (sw_true rfl rfl rfl (by decide +kernel)) (pi_list (pv 1)) (blkOk_by (N := N_l_plain) (sc := defScope s_l_plain) (by decide +kernel))
      (fun _ _ _ _ _ => (pg_name (i := 5) sc_l_plain.nd rfl (Or.inl rfl)))
      (fun _ _ _ _ _ => (pts_one (pt_cmpR (ko_notIn (K := K)) (pv 5) (pv 3) (by rfl))))
      (fun _ _ _ _ _ => (pv 5)))
        (pss_one (ps_ret (pe_tup (pa_cons (pv 2) (pa_cons (pe_ix ix_tup (pv 0) pe_int (fun _ _ => rfl)) (pa_cons (pe_c c_l_paired hr (by omega) (by rfl) (pa_cons (pv 4) (pa_cons (pe_c ih hr (by omega) (by rfl) (pa_cons (pe_ix ix_tup (pv 0) pe_int (fun _ _ => rfl)) (pa_cons (pe_op op_cat (pv 6) (pv 4)) pa_nil))) pa_nil))) pa_nil))))))))
        pss_nil)
      (pss_cons (ps_if (pt_cmpR op_eq (pv 2) pe_str (nomark _))
        (pss_cons (ps_setLc (i := 4) (own := [("_law_name", 5)]) rfl sc_l_plain.nd rfl rfl (sw_true rfl rfl rfl (by decide +kernel)) (pi_list (pv 3)) (blkOk_by (N := N_l_plain) (sc := defScope s_l_plain) (by decide +kernel))
      (fun _ _ _ _ _ => (pg_name (i := 5) sc_l_plain.nd rfl (Or.inl rfl)))
      (fun _ _ _ _ _ => (pts_one (pt_cmpR (ko_in (K := K)) (pv 5) (pe_c c_l_sets hr (by omega) (by rfl) (pa_cons (pe_ix (kx_tup (K := K)) (pv 0) pe_int (fun _ _ => rfl)) pa_nil)) (by rfl))))
      (fun _ _ _ _ _ => (pv 5)))
        (pss_cons (ps_setLc (i := 6) (own := [("_law_name", 5)]) rfl sc_l_plain.nd rfl rfl (sw_true rfl rfl rfl (by decide +kernel)) (pi_list (pv 1)) (blkOk_by (N := N_l_plain) (sc := defScope s_l_plain) (by decide +kernel))
      (fun _ _ _ _ _ => (pg_name (i := 5) sc_l_plain.nd rfl (Or.inl rfl)))
      (fun _ _ _ _ _ => (pts_one (pt_cmpR (ko_notIn (K := K)) (pv 5) (pv 3) (by rfl))))
      (fun _ _ _ _ _ => (pv 5)))
        (pss_cons (ps_set (i := 7) sc_l_plain.nd rfl (Or.inl rfl) (pe_tupleOf (by rfl) T.tuple (pe_lc (own := [("_law_name", 5), ("_law_right", 8)]) (g := gTup K 2 (gCons (gName 5) (gCons (gName 8) gNil))) rfl sc_l_plain.nd (pi_tup (pe_ix ix_tup (pv 0) pe_int (fun _ _ => rfl))) (blkOk_by (N := N_l_plain) (sc := defScope s_l_plain) (by decide +kernel))
      (fun _ _ _ _ _ => (pg_tup rfl (pgs_cons (pg_name (i := 5) sc_l_plain.nd rfl (Or.inl rfl)) (pgs_cons (pg_name (i := 8) sc_l_plain.nd rfl (Or.inl rfl)) pgs_nil))))
      (fun _ _ _ _ _ => pts_nil)
      (fun _ _ _ _ _ => (pe_tup (pa_cons (pv 5) (pa_cons (pe_c ih hr (by omega) (by rfl) (pa_cons (pv 8) (pa_cons (pv 1) pa_nil))) pa_nil)))))))
        (pss_one (ps_ret (pe_tup (pa_cons pe_str (pa_cons (pv 7) (pa_cons (pe_c c_l_paired hr (by omega) (by rfl) (pa_cons (pv 4) (pa_cons (pe_c ih hr (by omega) (by rfl) (pa_cons (pe_ix ix_tup (pv 0) pe_int (fun _ _ => rfl)) (pa_cons (pe_op op_cat (pv 6) (pv 4)) pa_nil))) pa_nil))) pa_nil)))))))))
        pss_nil)
      (pss_cons (ps_setLc (i := 9) (own := [("_law_part", 10)]) rfl sc_l_plain.nd rfl rfl (sw_true rfl rfl rfl (by decide +kernel)) (pi_list (pe_c c_l_parts hr (by omega) (by rfl) (pa_cons (pv 0) pa_nil))) (blkOk_by (N := N_l_plain) (sc := defScope s_l_plain) (by decide +kernel))
      (fun _ _ _ _ _ => (pg_name (i := 10) sc_l_plain.nd rfl (Or.inl rfl)))
      (fun _ _ _ _ _ => pts_nil)
      (fun _ _ _ _ _ => (pe_c ih hr (by omega) (by rfl) (pa_cons (pv 10) (pa_cons (pv 1) pa_nil)))))
      (pss_cons (ps_if (pt_cmpR op_eq (pv 2) pe_str (nomark _))
        (pss_one (ps_ret (pe_tup (pa_cons pe_str (pa_cons (pe_tupleOf (by rfl) T.tuple (pv 9)) pa_nil)))))
        pss_nil)
      (pss_cons (ps_if (pt_cmpR op_eq (pv 2) pe_str (nomark _))
        (pss_one (ps_ret (pe_tup (pa_cons pe_str (pa_cons (pe_ix ix_list (pv 9) pe_int (fun _ _ => rfl)) (pa_cons (pe_tupleOf (by rfl) T.tuple (pe_slice sl_list (pv 9) (po_some pe_int) po_none)) pa_nil))))))
        pss_nil)
      (pss_cons (ps_if (pt_cmpR op_eq (pv 2) pe_str (nomark _))
        (pss_one (ps_ret (pe_tup (pa_cons pe_str (pa_cons (pe_ix ix_tup (pv 0) pe_int (fun _ _ => rfl)) (pa_cons (pe_tupleOf (by rfl) T.tuple (pv 9)) pa_nil))))))
        pss_nil)
      (pss_one (ps_ret (pe_ifExp (pt_cmpR op_gt (pe_callB call_len_seq (by rfl) T.len (by decide +kernel) (pa_cons (pv 9) pa_nil)) pe_int (nomark _)) (pe_op op_catA (pe_tup (pa_cons (pv 2) pa_nil)) (pe_tupleOf (by rfl) T.tuple (pv 9))) (pv 0))))))))))))))), ?_⟩
      refine ⟨_, rfl, a, its, _, _, rfl, rfl, hs, hx.head, ?_⟩
      refine ⟨_, rfl, rfl, _, rfl, ?_⟩
      rw [eq_name o1]
      cases en : isName h with
      | true =>
        obtain ⟨x, rfl⟩ : ∃ x, h = .name x := by
          cases h with
          | name x => exact ⟨x, rfl⟩
          | _ => cases en
        have e0 : ps = [] := List.length_eq_zero_iff.mp o1.1
        subst e0
        have hx' : its = [.str "name", .str x] := hx
        subst hx'
        refine iteT ⟨_, rfl, a, _, _, _, rfl, rfl, hs, atI_nat (j := 1) rfl, _, rfl, hb, _, rfl, .inl (.inl (.inl hhb)), rfl, flat_strV _, _, rfl, ?_⟩
        rw [in_words]
        have ep : (Tr.mk (.name x) []).plain (inB pl) = if x ∈ pl then Tr.mk (.op "left") [nameT x] else .mk (.name x) [] := by
          show (if decide (x ∈ pl) = true then _ else _) = _
          by_cases z : x ∈ pl <;> simp [z, Tr.plains]
        rw [ep] at k
        by_cases z : x ∈ pl
        · rw [if_pos z] at k
          rw [decide_eq_true z]
          refine iteT ⟨_, rfl, by show 1 ≤ sizeLine; decide, fun p1 hp1 => ⟨by show 3 ≤ sizeLine; decide, fun p2 hp2 => ?_⟩⟩
          have s1 := same_new (o := .tup [V.ref a]) hp1
          have s2 := same_new (o := .tup [V.str "op", V.str "left", V.ref p1]) hp2
          exact k _ _ (s1.trans s2) (.tup (.inl (.inl upd_same)) (.cons (.str _) (.cons (.str _) (.cons (.tup (.inl (.inl (s2 _ _ upd_same))) (.cons (dp_same (s1.trans s2) _ _ hd) .nil)) .nil))))
        · rw [if_neg z] at k
          rw [decide_eq_false z]
          exact iteF ⟨_, rfl, k _ _ (Same.refl _) hd⟩
      | false =>
      refine iteF ⟨_, rfl, rfl, _, rfl, ?_⟩
      rw [eq_set o1, show (kd h == 3 && !isTak h) = isSet h from rfl]
      cases es : isSet h with
      | true =>
        obtain ⟨x, rfl⟩ : ∃ x, h = .one "set" x := by
          cases h with
          | one w x =>
            have z : (true && !(!decide (w = "set"))) = true := es
            rw [Bool.not_not, Bool.true_and] at z
            exact ⟨x, by rw [of_decide_eq_true z]⟩
          | _ => cases es
        obtain ⟨p, rfl⟩ := one_of (show ps.length = 1 from o1.1)
        obtain ⟨vs, rfl, hvs⟩ := hx
        obtain ⟨pv1, rfl, hpv⟩ := dpAll_one hvs
        have mp : p ∈ [p] := List.mem_singleton.mpr rfl
        have szp := sizeMem mp
        have ep : (Tr.mk (.one "set" x) [p]).plain (inB pl) = fillT x (p.plain (inB pl)) := by
          have es : scopeP (inB pl) (.one "set" x) 1 (anewOf (.one "set" x) [p]) 0 = inB pl := by
            funext y
            unfold scopeP under held
            simp
          show shapeP (inB pl) (anewOf (.one "set" x) [p]) [p.plain (scopeP (inB pl) (.one "set" x) 1 (anewOf (.one "set" x) [p]) 0)] (.one "set" x) = _
          rw [es]
          rfl
        rw [ep] at k
        refine iteT ⟨_, rfl, a, _, _, _, rfl, rfl, hs, atI_nat (j := 1) rfl, by show 2 ≤ sizeLine; decide, fun p1 hp1 => ?_⟩
        have s1 := same_new (o := .tup [V.str "name", V.str x]) hp1
        refine ⟨_, rfl, a, _, _, _, rfl, rfl, sqt_same s1 hs, atI_nat (j := 2) rfl, _, rfl, pv1, hb, p, pl, rfl, dp_same s1 _ _ hpv, o3 p mp, n3 p mp, dpm p mp, by omega, by omega, s1 _ _ hhb, by omega, fun r H1 s2 dr => ⟨by show 2 ≤ sizeLine; decide, fun p2 hp2 => ⟨by show 3 ≤ sizeLine; decide, fun p3 hp3 => ?_⟩⟩⟩
        have s3 := same_new (o := .tup [V.ref p1, r]) hp2
        have s4 := same_new (o := .tup [V.str "op", V.str "left!", V.ref p2]) hp3
        exact k _ _ (s1.trans (s2.trans (s3.trans s4))) (.tup (.inl (.inl upd_same)) (.cons (.str _) (.cons (.str _) (.cons (.tup (.inl (.inl (s4 _ _ upd_same))) (.cons (.tup (.inl (.inl ((s2.trans (s3.trans s4)) _ _ upd_same))) (.cons (.str _) (.cons (.str _) .nil))) (.cons (dp_same (s3.trans s4) _ _ dr) .nil))) .nil))))
      | false =>
      refine iteF ⟨_, rfl, .ref a, h, Tr.encL ps, rfl, hd, by rw [encL_len]; exact o1, by rw [encL_len]; omega, fun hl H1 s1 _ hhl => ?_⟩
      have epl : (Tr.mk h ps).plain (inB pl) = if isRec h = true ∧ anewOf h ps ≠ [] then recP (held h) (anewOf h ps) (Tr.plains (scopeP (inB pl) h ps.length (anewOf h ps)) 0 ps) else wrapL (anewOf h ps) h (Tr.plains (scopeP (inB pl) h ps.length (anewOf h ps)) 0 ps) := shape_gen en es
      refine ⟨_, rfl, rfl, _, rfl, ?_⟩
      rw [eq_rec o1]
      cases er : isRec h with
      | true =>
        obtain ⟨xs, rfl⟩ : ∃ xs, h = .bind "rec" xs := by
          cases h with
          | bind w xs =>
            have z : decide (w = "rec") = true := er
            exact ⟨xs, by rw [of_decide_eq_true z]⟩
          | _ => cases er
        exact iteT ⟨_, rfl, _, rfl, _, rfl, .ref a, hb, hl, xs, pl, ps, rfl, dp_same s1 _ _ hd, o, nw'.2, deps_le.mpr dpm, by omega, by omega, s1 _ _ hhb, hhl, by omega, fun r H2 s2 dr => k _ _ (s1.trans s2) dr⟩
      | false =>
      rw [epl, if_neg (fun z => by rw [er] at z; exact Bool.false_ne_true z.1)] at k
      refine iteF ⟨_, rfl, rfl, fun H2 s2 => ?_⟩
      rw [in_K o1]
      have S2 := s1.trans s2
      have hhb2 := S2 _ _ hhb
      have hhl2 := s2 _ _ hhl
      have hx2 := hx.same S2
      have hs2 := sqt_same S2 hs
      have heldle : (held h).length ≤ 100 := by have := under_len o1 o2 0 0; have e : under h 0 0 = held h := by unfold under; rw [if_neg (fun z => by have := z.2; omega)]
                                                rwa [e] at this
      cases eK : isFn h || isTak h with
      | true =>
        have eLf : isLet h = false := by
          cases h with
          | bind w xs => cases eK
          | _ => rfl
        obtain ⟨p, rfl⟩ : ∃ p, ps = [p] := by
          cases h with
          | fn xs => exact one_of (show ps.length = 1 from o1.1)
          | one w x => exact one_of (show ps.length = 1 from o1.1)
          | _ => cases eK
        obtain ⟨i1, d1, pu, eits, hd1, hpu⟩ : ∃ i1 d1 pu, its = [.str (wd h), i1, pu] ∧ Dp K H2 i1 d1 ∧ Dp K H2 pu p.enc ∧ ∀ e, encH h [e] = .tuple [.str (wd h), d1, e] := by
          cases h with
          | fn xs =>
            obtain ⟨q, vs, rfl, hq, hv⟩ := hx2
            obtain ⟨u, rfl, hu⟩ := dpAll_one (d := p.enc) hv
            exact ⟨.ref q, encs xs, u, rfl, .tup hq (dpAll_strs xs), hu, fun e => rfl⟩
          | one w x =>
            obtain ⟨vs, rfl, hv⟩ := hx2
            obtain ⟨u, rfl, hu⟩ := dpAll_one (d := p.enc) hv
            exact ⟨.str x, .str x, u, rfl, .str x, hu, fun e => rfl⟩
          | _ => cases eK
        obtain ⟨hpu, eH⟩ := hpu
        subst eits
        have mp : p ∈ [p] := List.mem_singleton.mpr rfl
        have szp := sizeMem mp
        have dpp := dpm p mp
        refine iteT ?_
        obtain ⟨mine, hmine⟩ : ∃ mine, mine = (held h).filter fun x => decide (x ∈ p.free true) := ⟨_, rfl⟩
        have mle : mine.length ≤ 10 := by
          rw [hmine, ← anew_one eLf]
          exact anew_len o1 o2 nw'.1
        obtain ⟨outer, houter⟩ : ∃ outer, outer = pl.filter fun x => !decide (x ∈ held h) := ⟨_, rfl⟩
        have ole : outer.length ≤ pl.length := by rw [houter]; exact List.length_filter_le _ _
        have osz : (outer.map V.str).length + (mine.map V.str).length ≤ sizeLine := by
          rw [List.length_map, List.length_map, sizeLine_eq]
          omega
        have hhl2' : H2 hl = some (.lst ((held h).map V.str)) := hhl2
        refine ⟨_, rfl, hl, rfl, ⟨_, .inl (.inl hhl2')⟩, fun D1 hD1 => ?_⟩
        refine lc_filt (K := K) (held h) (fun x => decide (x ∈ p.free true)) (walk_list (K := K) (a := hl) (xs := (held h).map V.str)) hD1 (by omega) (fun H' s => .inl (.inl (s _ _ hhl2'))) ?_ ?_
        · intro y H3 hy s3 Q1 Q0 q1 q0
          refine ⟨rfl, _, rfl, _, rfl, a, _, _, _, rfl, rfl, sqt_same s3 hs2, atI_nat (j := 2) rfl, pu, p, rfl, dp_same s3 _ _ hpu, o3 p mp, by omega, by omega, fun l2 H4 s4 _ hl2 => ⟨l2, _, rfl, .inl (.inl (.inl hl2)), rfl, flat_strV _, _, rfl, ?_⟩⟩
          exact in_strs (fun z => ⟨_, rfl, q1 _ s4 (decide_eq_true z)⟩) (fun z => q0 _ s4 (decide_eq_false z))
        intro H3 s3 hmi
        rw [← hmine] at hmi
        have hhb3 := s3 _ _ hhb2
        have hhl3 := s3 _ _ hhl2'
        refine ⟨_, rfl, hb, rfl, ⟨_, .inl (.inl hhb3)⟩, fun D2 hD2 => ?_⟩
        refine lc_filt (K := K) pl (fun x => !decide (x ∈ held h)) (walk_list (K := K) (a := hb) (xs := pl.map V.str)) hD2 (by omega) (fun H' s => .inl (.inl (s _ _ hhb3))) ?_ ?_
        · intro y H4 hy s4 Q1 Q0 q1 q0
          refine ⟨rfl, _, rfl, _, rfl, hl, _, rfl, .inl (.inl (.inl (s4 _ _ hhl3))), rfl, flat_strV _, _, rfl, ?_⟩
          exact nin_strs (fun z => ⟨_, rfl, q1 _ (Same.refl _) (by rw [decide_eq_false z]; rfl)⟩) (fun z => q0 _ (Same.refl _) (by rw [decide_eq_true z]; rfl))
        intro H4 s4 hou
        rw [← houter] at hou
        have S24 := s3.trans s4
        have hmi4 := s4 _ _ hmi
        have e1 : (H2 : Hp) = H2 := rfl
        have ek : wrapL (anewOf h [p]) h (Tr.plains (scopeP (inB pl) h [p].length (anewOf h [p])) 0 [p]) = Tr.mk h [pairedT mine (p.plain (inB (outer ++ mine)))] := by
          have ea : anewOf h [p] = mine := by rw [anew_one eLf, hmine]
          rw [ea]
          show wrapL mine h ([] ++ [p.plain (scopeP (inB pl) h 1 mine 0)]) = _
          rw [wrap_last, ← scope_law pl (h := h) (n := 1) (i := 0) (under_no eLf _ _) (fun x m => by rw [hmine] at m; exact (List.mem_filter.mp m).1), ← houter]
          rfl
        rw [ek] at k
        refine ⟨_, rfl, _, rfl, a, _, _, _, rfl, rfl, sqt_same S24 hs2, atI_nat (j := 1) rfl, ?_⟩
        refine ⟨_, rfl, _, rfl, a, _, _, _, rfl, rfl, sqt_same S24 hs2, atI_nat (j := 2) rfl, _, rfl, _, rfl, D2, D1, _, _, rfl, rfl, hou, hmi4, osz, fun D3 hD3 => ?_⟩
        have s5 := same_new (o := .lst (outer.map V.str ++ mine.map V.str)) hD3
        have e5 : upd H4 D3 (.lst (outer.map V.str ++ mine.map V.str)) D3 = some (.lst ((outer ++ mine).map V.str)) := by rw [upd_same, List.map_append]
        generalize upd H4 D3 (.lst (outer.map V.str ++ mine.map V.str)) = H5 at *
        refine ⟨pu, D3, p, outer ++ mine, rfl, dp_same (S24.trans s5) _ _ hpu, o3 p mp, n3 p mp, dpp, by omega, by omega, e5, by rw [List.length_append]; omega, fun r H6 s6 dr => ?_⟩
        refine ⟨D1, r, mine, _, rfl, s6 _ _ (s5 _ _ hmi4), by omega, dr, fun r2 H7 s7 dr2 => ⟨by show 3 ≤ sizeLine; decide, fun p4 hp4 => ?_⟩⟩
        have s8 := same_new (o := .tup [V.str (wd h), i1, r2]) hp4
        have s58 := ((s5.trans s6).trans s7).trans s8
        refine k _ _ ((S2.trans S24).trans s58) ?_
        show Dp K _ _ (encH h [(pairedT mine (p.plain (inB (outer ++ mine)))).enc])
        rw [eH]
        exact .tup (.inl (.inl upd_same)) (.cons (.str _) (.cons (dp_same (S24.trans s58) _ _ hd1) (.cons (dp_same s8 _ _ dr2) .nil)))
      | false =>
      refine iteF ⟨_, rfl, rfl, _, rfl, ?_⟩
      rw [eq_let o1]
      cases eL : isLet h with
      | true =>
        obtain ⟨xs, rfl⟩ : ∃ xs, h = .bind "let" xs := by
          cases h with
          | bind w xs =>
            have z : decide (w = "let") = true := eL
            exact ⟨xs, by rw [of_decide_eq_true z]⟩
          | _ => cases eL
        have lps : ps.length = xs.length + 1 := o1.1
        obtain ⟨q, rows, vs, rfl, hq, hrows, hv⟩ := hx2
        obtain ⟨init, p, rfl⟩ : ∃ init p, ps = init ++ [p] := ⟨ps.take xs.length, ps[xs.length]'(by omega), by
          have := take_one (List.getElem?_eq_getElem (show xs.length < ps.length by omega))
          rw [← this, List.take_of_length_le (by omega)]⟩
        have li : init.length = xs.length := by rw [List.length_append] at lps; exact Nat.succ.inj lps
        have mp : p ∈ init ++ [p] := List.mem_append_right _ (List.mem_singleton.mpr rfl)
        have mi : ∀ c ∈ init, c ∈ init ++ [p] := fun c m => List.mem_append_left _ m
        rw [encL_map, ← List.map_drop, List.drop_left' li] at hv
        obtain ⟨pu, rfl, hpu⟩ := dpAll_one (d := p.enc) hv
        have lrows : rows.length = xs.length := by
          have := DpAll.len hrows
          rw [List.length_map, List.length_zip, encL_len] at this
          omega
        have szp := sizeMem mp
        have dpp := dpm p mp
        refine iteT ?_
        obtain ⟨mine, hmine⟩ : ∃ mine, mine = (held (.bind "let" xs)).filter fun x => decide (x ∈ p.free true) := ⟨_, rfl⟩
        have mle : mine.length ≤ 10 := by
          rw [hmine, ← anew_let (qs := init) eL]
          exact anew_len o1 o2 nw'.1
        obtain ⟨outer, houter⟩ : ∃ outer, outer = pl.filter fun x => !decide (x ∈ held (.bind "let" xs)) := ⟨_, rfl⟩
        have ole : outer.length ≤ pl.length := by rw [houter]; exact List.length_filter_le _ _
        have osz : (outer.map V.str).length + (mine.map V.str).length ≤ sizeLine := by
          rw [List.length_map, List.length_map, sizeLine_eq]
          omega
        have hhl2' : H2 hl = some (.lst ((held (.bind "let" xs)).map V.str)) := hhl2
        refine ⟨_, rfl, hl, rfl, ⟨_, .inl (.inl hhl2')⟩, fun D1 hD1 => ?_⟩
        refine lc_filt (K := K) (held (.bind "let" xs)) (fun x => decide (x ∈ p.free true)) (walk_list (K := K) (a := hl) (xs := (held (.bind "let" xs)).map V.str)) hD1 (by omega) (fun H' s => .inl (.inl (s _ _ hhl2'))) ?_ ?_
        · intro y H3 hy s3 Q1 Q0 q1 q0
          refine ⟨rfl, _, rfl, _, rfl, a, _, _, _, rfl, rfl, sqt_same s3 hs2, atI_nat (j := 2) rfl, pu, p, rfl, dp_same s3 _ _ hpu, o3 p mp, by omega, by omega, fun l2 H4 s4 _ hl2 => ⟨l2, _, rfl, .inl (.inl (.inl hl2)), rfl, flat_strV _, _, rfl, ?_⟩⟩
          exact in_strs (fun z => ⟨_, rfl, q1 _ s4 (decide_eq_true z)⟩) (fun z => q0 _ s4 (decide_eq_false z))
        intro H3 s3 hmi
        rw [← hmine] at hmi
        have hhb3 := s3 _ _ hhb2
        have hhl3 := s3 _ _ hhl2'
        refine ⟨_, rfl, hb, rfl, ⟨_, .inl (.inl hhb3)⟩, fun D2 hD2 => ?_⟩
        refine lc_filt (K := K) pl (fun x => !decide (x ∈ held (.bind "let" xs))) (walk_list (K := K) (a := hb) (xs := pl.map V.str)) hD2 (by omega) (fun H' s => .inl (.inl (s _ _ hhb3))) ?_ ?_
        · intro y H4 hy s4 Q1 Q0 q1 q0
          refine ⟨rfl, _, rfl, _, rfl, hl, _, rfl, .inl (.inl (.inl (s4 _ _ hhl3))), rfl, flat_strV _, _, rfl, ?_⟩
          exact nin_strs (fun z => ⟨_, rfl, q1 _ (Same.refl _) (by rw [decide_eq_false z]; rfl)⟩) (fun z => q0 _ (Same.refl _) (by rw [decide_eq_true z]; rfl))
        intro H4 s4 hou
        rw [← houter] at hou
        have S24 := s3.trans s4
        have hmi4 := s4 _ _ hmi
        obtain ⟨Z, hZ⟩ : ∃ Z, Z = xs.zip (init.map fun t => t.plain (inB pl)) := ⟨_, rfl⟩
        have lZ : Z.length = xs.length := by rw [hZ, List.length_zip, List.length_map]; omega
        have hq4 := sqt_same S24 hq
        refine ⟨_, rfl, a, _, _, _, rfl, rfl, sqt_same S24 hs2, atI_nat (j := 1) rfl, q, rfl, ⟨_, hq4⟩, fun D4 hD4 => ?_⟩
        refine lc_data (K := K) (walk_tup (K := K) (a := q) (xs := rows)) (fun i => (Z[i]?).map fun r => PyData.tuple [.str r.1, r.2.enc]) hD4 (by omega) (fun H' s => sqt_same s hq4) (fun i _ d e => ?_) ?_ ?_
        · obtain ⟨b, _, rfl⟩ := Option.map_eq_some_iff.mp e
          exact frowT _
        · rintro i x0 H6' H6 hi s6 ⟨rfl, ex⟩ Q1 Q0 q1 q0
          obtain ⟨d, g1, g2⟩ := DpAll.atV (dps_same (S24.trans s6) _ _ hrows) ex
          obtain ⟨⟨x, e⟩, er2, rfl⟩ := map_at g1
          obtain ⟨g3, g4⟩ := List.getElem?_zip_eq_some.mp er2
          obtain ⟨c, ec, rfl⟩ := encL_at' g4
          have ei : i < init.length := by rw [li]; omega
          rw [List.getElem?_append_left ei] at ec
          have hcm := mi c (List.mem_of_getElem? ec)
          obtain ⟨t, u, rfl, ht, hu⟩ := dp_row g2
          have er : Z[i]? = some (x, c.plain (inB pl)) := by
            rw [hZ]
            exact List.getElem?_zip_eq_some.mpr ⟨g3, by rw [List.getElem?_map, ec]; rfl⟩
          have szc := sizeMem hcm
          refine ⟨t, _, rfl, ht, rfl, _, _, rfl, _, _, rfl, rfl, rfl, iteT (B := Q0 H6) ⟨_, rfl, _, rfl, _, rfl, u, hb, c, pl, rfl, hu, o3 c hcm, n3 c hcm, dpm c hcm, by omega, by omega, (S24.trans s6) _ _ hhb2, by omega, fun r H7 s7 dr => ⟨by show 2 ≤ sizeLine; decide, fun p hp => ?_⟩⟩⟩
          have s8 := same_new (o := .tup [V.str x, r]) hp
          exact q1 _ _ (PyData.tuple [.str x, (c.plain (inB pl)).enc]) (by rw [er]; rfl) (s7.trans s8) (.tup (.inl (.inl upd_same)) (.cons (.str _) (.cons (dp_same s8 _ _ dr) .nil)))
        intro H6 ot s6 hot dot
        rw [lrows, ← lZ, Cm.range_map (fun r : Str × Tr => PyData.tuple [.str r.1, r.2.enc])] at dot
        refine .inl ⟨D4, ot, rfl, .inl (.inl hot), fun t7 ht7 => ?_⟩
        have s7 := same_new (o := .tup ot) ht7
        have s67 := s6.trans s7
        have S27 := S24.trans s67
        have eo7 : upd H6 t7 (.tup ot) t7 = some (.tup ot) := upd_same
        have dot7 := dps_same s7 _ _ dot
        generalize upd H6 t7 (.tup ot) = H7 at *
        refine ⟨_, rfl, _, rfl, _, rfl, a, _, _, _, rfl, rfl, sqt_same S27 hs2, atI_nat (j := 2) rfl, _, rfl, _, rfl, D2, D1, _, _, rfl, rfl, s67 _ _ hou, s67 _ _ hmi4, osz, fun D3 hD3 => ?_⟩
        have s8 := same_new (o := .lst (outer.map V.str ++ mine.map V.str)) hD3
        have e8 : upd H7 D3 (.lst (outer.map V.str ++ mine.map V.str)) D3 = some (.lst ((outer ++ mine).map V.str)) := by rw [upd_same, List.map_append]
        generalize upd H7 D3 (.lst (outer.map V.str ++ mine.map V.str)) = H8 at *
        refine ⟨pu, D3, p, outer ++ mine, rfl, dp_same (S27.trans s8) _ _ hpu, o3 p mp, n3 p mp, dpp, by omega, by omega, e8, by rw [List.length_append]; omega, fun r H9 s9 dr => ?_⟩
        refine ⟨D1, r, mine, _, rfl, s9 _ _ (s8 _ _ (s67 _ _ hmi4)), by omega, dr, fun r2 H10 s10 dr2 => ⟨by show 3 ≤ sizeLine; decide, fun p4 hp4 => ?_⟩⟩
        have s11 := same_new (o := .tup [V.str "let", V.ref t7, r2]) hp4
        have s811 := ((s8.trans s9).trans s10).trans s11
        refine k _ _ ((S2.trans S27).trans s811) ?_
        have ek : wrapL (anewOf (.bind "let" xs) (init ++ [p])) (.bind "let" xs) (Tr.plains (scopeP (inB pl) (.bind "let" xs) (init ++ [p]).length (anewOf (.bind "let" xs) (init ++ [p]))) 0 (init ++ [p])) = Tr.mk (.bind "let" xs) ((init.map fun t => t.plain (inB pl)) ++ [pairedT mine (p.plain (inB (outer ++ mine)))]) := by
          have ea : anewOf (.bind "let" xs) (init ++ [p]) = mine := by rw [anew_let eL, hmine]
          have ln : (init ++ [p]).length = init.length + 1 := by rw [List.length_append]; rfl
          rw [ea, plains_snoc, wrap_last, Nat.zero_add]
          have e1 : scopeP (inB pl) (.bind "let" xs) (init ++ [p]).length mine init.length = inB (outer ++ mine) := by
            rw [houter]
            exact (scope_law pl (h := .bind "let" xs) (n := (init ++ [p]).length) (i := init.length) (by unfold under; rw [if_neg (fun z => by have := z.2; omega)]) (fun x m => by rw [hmine] at m; exact (List.mem_filter.mp m).1)).symm
          rw [e1, plains_to (B := inB pl) (n := init.length) (fun j hj => ?_) 0 init (by omega)]
          have eu : under (.bind "let" xs) (init ++ [p]).length j = [] := by unfold under; rw [if_pos ⟨eL, by omega⟩]
          funext x
          unfold scopeP
          rw [eu]
          simp
        rw [ek, enc_bind _ _ _ _ (by rw [List.length_map]; omega), ← hZ]
        exact .tup (.inl (.inl upd_same)) (.cons (.str _) (.cons (.tup (.inl (.inl (s811 _ _ eo7))) (dps_same s811 _ _ dot7)) (.cons (dp_same s11 _ _ dr2) .nil)))
      | false =>
      have eh : held h = [] := by
        cases h with
        | fn xs => cases eK
        | bind w xs =>
          have key : ∀ w ∈ bindW, decide (w = ("rec" : Str)) = false → decide (w = ("let" : Str)) = false → False := by decide +kernel
          exact (key w o1.2.1 er eL).elim
        | one w x =>
          have z1 : (false || !decide (w = "set")) = false := eK
          rw [Bool.false_or] at z1
          show (if w = "set" then [] else [x] : List Str) = []
          rw [if_pos]
          by_cases z : w = "set"
          · exact z
          · rw [decide_eq_false z] at z1; cases z1
        | _ => rfl
      have ek : wrapL (anewOf h ps) h (Tr.plains (scopeP (inB pl) h ps.length (anewOf h ps)) 0 ps) = Tr.mk h (ps.map fun t => t.plain (inB pl)) := by
        rw [anew_no eh, plains_const (B := inB pl) (fun j => ?_)]
        · rfl
        · have eu : under h ps.length j = [] := by rw [under_no eL]; exact eh
          funext x
          unfold scopeP
          rw [eu]
          simp
      rw [ek] at k
      obtain ⟨qs, hqs⟩ : ∃ qs, qs = ps.map fun t => t.plain (inB pl) := ⟨_, rfl⟩
      have lq : qs.length = ps.length := by rw [hqs, List.length_map]
      rw [← hqs] at k
      refine iteF ⟨_, rfl, .ref a, h, Tr.encL ps, rfl, dp_same S2 _ _ hd, by rw [encL_len]; exact o1, fle, by rw [encL_len]; omega, fun P0 us H3 s3 _ hP hus => ⟨P0, rfl, ⟨_, .inl (.inl hP)⟩, fun D1 hD1 => ?_⟩⟩
      have hul := DpAll.len hus
      rw [encL_len] at hul
      have S3 := S2.trans s3
      refine lc_data (K := K) (walk_list (K := K) (a := P0) (xs := us)) (fun i => (qs[i]?).map Tr.enc) hD1 (by omega) (fun H' s => .inl (.inl (s _ _ hP))) (fun i _ d e => ?_) ?_ ?_
      · obtain ⟨x, _, rfl⟩ := Option.map_eq_some_iff.mp e
        exact flat_enc _
      · rintro i x0 H4' H4 hi s4 ⟨rfl, ex⟩ Q1 Q0 q1 q0
        obtain ⟨d, g1, g2⟩ := DpAll.atV (dps_same s4 _ _ hus) ex
        obtain ⟨c, ec, rfl⟩ := encL_at' g1
        have hcm : c ∈ ps := List.mem_of_getElem? ec
        have szc := sizeMem hcm
        refine ⟨rfl, iteT (B := Q0 H4) ⟨_, rfl, _, rfl, x0, hb, c, pl, rfl, g2, o3 c hcm, n3 c hcm, dpm c hcm, by omega, by omega, (s3.trans s4) _ _ hhb2, by omega, fun r H5 s5 dr => ?_⟩⟩
        exact q1 _ _ (c.plain (inB pl)).enc (by rw [hqs, List.getElem?_map, ec]; rfl) s5 dr
      intro H4 acc s4 hacc dacc
      rw [show us.length = qs.length by omega, Cm.range_map Tr.enc, ← encL_map] at dacc
      have lacc : acc.length = ps.length := by have := DpAll.len dacc; rw [encL_len] at this; omega
      have S4 := S3.trans s4
      refine ⟨_, rfl, rfl, _, rfl, ?_⟩
      rw [eq_do o1]
      cases eD : isDo h with
      | true =>
        refine iteT ?_
        cases h with
        | doo =>
          refine ⟨_, rfl, .inl ⟨D1, acc, rfl, .inl (.inl hacc), fun t1 ht1 => ⟨by show 2 ≤ sizeLine; decide, fun t2 ht2 => ?_⟩⟩⟩
          have s5 := same_new (o := .tup acc) ht1
          have s6 := same_new (o := .tup [V.str "do", V.ref t1]) ht2
          exact k _ _ ((S4.trans s5).trans s6) (.tup (.inl (.inl upd_same)) (.cons (.str _) (.cons (.tup (.inl (.inl (s6 _ _ upd_same))) (dps_same (s5.trans s6) _ _ dacc)) .nil)))
        | _ => cases eD
      | false =>
      refine iteF ⟨_, rfl, rfl, _, rfl, ?_⟩
      rw [eq_call o1]
      cases eC : isCall h with
      | true =>
        refine iteT ?_
        cases h with
        | call =>
          have hps : 1 ≤ ps.length := o1
          obtain ⟨u0, ur, rfl⟩ : ∃ u0 ur, acc = u0 :: ur := by
            cases acc with
            | nil => simp at lacc; omega
            | cons u0 ur => exact ⟨u0, ur, rfl⟩
          refine ⟨_, rfl, D1, _, _, _, rfl, rfl, .inl (.inl hacc), atI_nat (j := 0) rfl, _, rfl, 1, rfl, D1, _, rfl, .inl (.inl hacc), fun t1 ht1 => ?_⟩
          have ec : cutV (u0 :: ur) (some 1) none = ur := by rw [show (1 : Int) = ((1 : Nat) : Int) from rfl, cut_from (by rw [List.length_cons]; omega)]; rfl
          rw [ec]
          have s5 := same_new (o := .lst ur) ht1
          refine .inl ⟨t1, _, rfl, .inl (.inl upd_same), fun t2 ht2 => ⟨by show 3 ≤ sizeLine; decide, fun t3 ht3 => ?_⟩⟩
          have s6 := same_new (o := .tup ur) ht2
          have s7 := same_new (o := .tup [V.str "call", u0, V.ref t2]) ht3
          have s57 := s5.trans (s6.trans s7)
          obtain ⟨q0, qr, eqs⟩ : ∃ q0 qr, qs = q0 :: qr := by
            cases z : qs with
            | nil => rw [z] at lq; simp at lq; omega
            | cons u0 ur => exact ⟨u0, ur, rfl⟩
          rw [eqs] at k dacc
          have dacc' : DpAll K H4 (u0 :: ur) (q0.enc :: Tr.encL qr) := dacc
          cases dacc' with
          | cons d0 dr =>
            exact k _ _ (S4.trans s57) (.tup (.inl (.inl upd_same)) (.cons (.str _) (.cons (dp_same s57 _ _ d0) (.cons (.tup (.inl (.inl (s7 _ _ upd_same))) (dps_same s57 _ _ dr)) .nil))))
        | _ => cases eC
      | false =>
      refine iteF ⟨_, rfl, rfl, _, rfl, ?_⟩
      rw [eq_op o1]
      cases eO : isOp h with
      | true =>
        refine iteT ?_
        cases h with
        | op o' =>
          have hx4 := hx.same S4
          obtain ⟨q, vs, rfl, hq, hv⟩ := hx4
          refine ⟨_, rfl, a, _, _, _, rfl, rfl, sqt_same S4 hs, atI_nat (j := 1) rfl, _, rfl, .inl ⟨D1, acc, rfl, .inl (.inl hacc), fun t1 ht1 => ⟨by show 3 ≤ sizeLine; decide, fun t2 ht2 => ?_⟩⟩⟩
          have s5 := same_new (o := .tup acc) ht1
          have s6 := same_new (o := .tup [V.str "op", V.str o', V.ref t1]) ht2
          exact k _ _ ((S4.trans s5).trans s6) (.tup (.inl (.inl upd_same)) (.cons (.str _) (.cons (.str _) (.cons (.tup (.inl (.inl (s6 _ _ upd_same))) (dps_same (s5.trans s6) _ _ dacc)) .nil))))
        | _ => cases eO
      | false =>
      refine iteF ⟨_, rfl, D1, _, rfl, .inl (.inl (.inl hacc)), _, _, rfl, rfl, _, rfl, ?_⟩
      have hd4 := dp_same S4 _ _ hd
      by_cases e0 : ps = []
      · subst e0
        have ea : acc = [] := List.length_eq_zero_iff.mp lacc
        have eq0 : qs = [] := List.length_eq_zero_iff.mp lq
        subst ea
        refine iteF ⟨_, rfl, k _ _ S4 ?_⟩
        rw [eq0]
        exact hd4
      · have hp : 0 < ps.length := Nat.pos_of_ne_zero fun e => e0 (List.length_eq_zero_iff.mp e)
        have e1 : decide ((0 : Int) < (acc.length : Int)) = true := decide_eq_true (by omega)
        rw [e1]
        cases h with
        | plain w =>
          refine iteT ⟨_, rfl, by show 1 ≤ sizeLine; decide, fun t1 ht1 => ?_⟩
          have s5 := same_new (o := .tup [V.str w]) ht1
          refine ⟨_, rfl, .inl ⟨D1, acc, rfl, .inl (.inl (s5 _ _ hacc)), fun t2 ht2 => ?_⟩⟩
          have s6 := same_new (o := .tup acc) ht2
          refine cat_any (.inl (.inl (s6 _ _ upd_same))) (.inl (.inl upd_same)) (Nat.le_trans (show 1 + acc.length ≤ 200 by omega) (by decide)) fun t5 H5 s7 ht5 => ?_
          exact k _ _ ((S4.trans s5).trans (s6.trans s7)) (.tup ht5 (.cons (.str _) (dps_same (s5.trans (s6.trans s7)) _ _ dacc)))
        | num i => exact absurd (List.length_eq_zero_iff.mp o1) e0
        | name i => exact absurd (List.length_eq_zero_iff.mp o1.1) e0
        | lit i => exact absurd (List.length_eq_zero_iff.mp o1.1) e0
        | fn xs => cases eK
        | bind w xs =>
          have key : ∀ w ∈ bindW, decide (w = ("rec" : Str)) = false → decide (w = ("let" : Str)) = false → False := by decide +kernel
          exact (key w o1.2.1 er eL).elim
        | one w x =>
          have z1 : (true && !(!decide (w = "set"))) = false := es
          have z2 : (false || !decide (w = "set")) = false := eK
          rw [Bool.false_or] at z2
          rw [z2] at z1
          cases z1
        | doo => cases eD
        | call => cases eC
        | op _ => cases eO
end
end K04

set_option linter.all false
/-! good trees: their winds have three parts, how deep and how large they are; trees without takes, with marked winds -/
namespace Cm
open PySem L2 PySem.Spec PyProof.Rows
def isWind : Hd → Bool
  | .plain w => decide (w = "wind")
  | _ => false
mutual
def Tr.w3 : Tr → Prop
  | .mk h ps => (isWind h = true → ps.length = 3) ∧ Tr.w3s ps
def Tr.w3s : List Tr → Prop
  | [] => True
  | t :: ts => t.w3 ∧ Tr.w3s ts
end
theorem w3s_iff : ∀ {ps : List Tr}, Tr.w3s ps ↔ ∀ t ∈ ps, t.w3
  | [] => by simp [Tr.w3s]
  | t :: ts => by
    show t.w3 ∧ Tr.w3s ts ↔ _
    rw [w3s_iff]
    simp
structure Gd (d n : Nat) (t : Tr) : Prop where
  ok : t.ok
  w3 : t.w3
  dd : t.dd 1 ≤ d
  sz : t.size ≤ n
structure Gds (d n : Nat) (ts : List Tr) : Prop where
  ok : Tr.oks ts
  w3 : Tr.w3s ts
  dd : Tr.dds 1 ts ≤ d
  sz : Tr.sizes ts ≤ n
theorem Gd.mono {d n d' n' : Nat} {t : Tr} (h : Gd d n t) (a : d ≤ d') (b : n ≤ n') : Gd d' n' t := ⟨h.ok, h.w3, Nat.le_trans h.dd a, Nat.le_trans h.sz b⟩
theorem Gds.nil {d : Nat} : Gds d 0 [] := ⟨trivial, trivial, Nat.zero_le _, Nat.zero_le _⟩
theorem Gds.cons {d d1 n m : Nat} {t : Tr} {ts : List Tr} (h : Gd d1 n t) (r : Gds d m ts) (e : d1 ≤ d := by omega) : Gds d (n + m) (t :: ts) :=
  ⟨⟨h.ok, r.ok⟩, ⟨h.w3, r.w3⟩, by
    have h1 := h.dd
    have h2 := r.dd
    show max (t.dd 1) (Tr.dds 1 ts) ≤ d
    omega, by
    have h1 := h.sz
    have h2 := r.sz
    show t.size + Tr.sizes ts ≤ n + m
    omega⟩
theorem Gd.of {h : Hd} {ps : List Tr} {d n : Nat} (g : Gds d n ps) (o : hok h ps.length) (l : ps.length ≤ 11 := by exact Nat.le_of_ble_eq_true rfl) (w : isWind h = true → ps.length = 3 := by intro z; first | rfl | exact absurd z Bool.false_ne_true) : Gd (wt 1 h + d) (n + 1) (.mk h ps) :=
  ⟨⟨o, l, g.ok⟩, ⟨w, g.w3⟩, Nat.add_le_add_left g.dd _, Nat.succ_le_succ g.sz⟩
theorem gd_num (i : Int) : Gd 1 1 (.mk (.num i) []) := Gd.of (h := .num i) (d := 0) (n := 0) .nil rfl
theorem gd_name {x : Str} (h : sok x) : Gd 1 1 (.mk (.name x) []) := Gd.of (h := .name x) (d := 0) (n := 0) .nil ⟨rfl, h⟩
theorem gd_lit {w : Str} (h : w ∈ litW) : Gd 1 1 (.mk (.lit w) []) := Gd.of (h := .lit w) (d := 0) (n := 0) .nil ⟨rfl, h⟩
/-! ### keep in the place of take -/
def noTake : Hd → Hd
  | .one w x => if w = "take" then .one "keep" x else .one w x
  | h => h
mutual
def Tr.nt : Tr → Tr
  | .mk h ps => .mk (noTake h) (Tr.nts ps)
def Tr.nts : List Tr → List Tr
  | [] => []
  | t :: ts => t.nt :: Tr.nts ts
end
theorem nts_map : ∀ ps : List Tr, Tr.nts ps = ps.map Tr.nt
  | [] => rfl
  | t :: ts => by
    show t.nt :: Tr.nts ts = _
    rw [nts_map ts]
    rfl
theorem hok_noTake {h : Hd} {n : Nat} (o : hok h n) : hok (noTake h) n := by
  cases h with
  | one w x =>
    show hok (if w = "take" then .one "keep" x else .one w x) n
    split
    · exact ⟨o.1, by decide, o.2.2⟩
    · exact o
  | _ => exact o
theorem wt_noTake (b : Nat) (h : Hd) : wt b (noTake h) = wt b h := by
  cases h with
  | one w x =>
    show wt b (if w = "take" then .one "keep" x else .one w x) = _
    split <;> rfl
  | _ => rfl
theorem wind_noTake (h : Hd) : isWind (noTake h) = isWind h := by
  cases h with
  | one w x =>
    show isWind (if w = "take" then .one "keep" x else .one w x) = _
    split <;> rfl
  | _ => rfl
mutual
theorem gd_nt : ∀ (t : Tr) {d n : Nat}, Gd d n t → Gd d n t.nt
  | .mk h ps, d, n, g => by
    have o : hok h ps.length ∧ ps.length ≤ 11 ∧ Tr.oks ps := g.ok
    have w : (isWind h = true → ps.length = 3) ∧ Tr.w3s ps := g.w3
    have h1 : wt 1 h + Tr.dds 1 ps ≤ d := g.dd
    have h2 : Tr.sizes ps + 1 ≤ n := g.sz
    have r := gds_nt ps (d := Tr.dds 1 ps) (n := Tr.sizes ps) ⟨o.2.2, w.2, Nat.le_refl _, Nat.le_refl _⟩
    have e : (Tr.nts ps).length = ps.length := by rw [nts_map, List.length_map]
    refine Gd.mono (Gd.of (h := noTake h) r (by rw [e]; exact hok_noTake o.1) (by rw [e]; exact o.2.1) (fun z => by rw [e]; rw [wind_noTake] at z; exact w.1 z)) ?_ h2
    rw [wt_noTake]
    exact h1
theorem gds_nt : ∀ (ts : List Tr) {d n : Nat}, Gds d n ts → Gds d n (Tr.nts ts)
  | [], _, _, g => g
  | t :: ts, d, n, g => by
    have o : t.ok ∧ Tr.oks ts := g.ok
    have w : t.w3 ∧ Tr.w3s ts := g.w3
    have h1 : max (t.dd 1) (Tr.dds 1 ts) ≤ d := g.dd
    have h2 : t.size + Tr.sizes ts ≤ n := g.sz
    have a := gd_nt t (d := d) (n := t.size) ⟨o.1, w.1, by omega, Nat.le_refl _⟩
    have b := gds_nt ts (d := d) (n := n - t.size) ⟨o.2, w.2, by omega, by omega⟩
    have := Gds.cons a b (Nat.le_refl _)
    have e : t.size + (n - t.size) = n := by omega
    rw [e] at this
    exact this
end
/-! ### a mark around the middle of each wind -/
def markMid (h : Hd) (ps : List Tr) : List Tr :=
  if isWind h = true then match ps with
    | [a, b, c] => [a, .mk (.plain "mark") [b], c]
    | ps => ps
  else ps
mutual
def Tr.mw : Tr → Tr
  | .mk h ps => .mk h (markMid h (Tr.mws ps))
def Tr.mws : List Tr → List Tr
  | [] => []
  | t :: ts => t.mw :: Tr.mws ts
end
theorem mws_map : ∀ ps : List Tr, Tr.mws ps = ps.map Tr.mw
  | [] => rfl
  | t :: ts => by
    show t.mw :: Tr.mws ts = _
    rw [mws_map ts]
    rfl
/-- what is left of a good tree with marked winds -/
structure Gm (d n : Nat) (t : Tr) : Prop where
  ok : t.ok
  dd : t.dd 0 ≤ d
  sz : t.size ≤ n
structure Gms (d n : Nat) (ts : List Tr) : Prop where
  ok : Tr.oks ts
  dd : Tr.dds 0 ts ≤ d
  sz : Tr.sizes ts ≤ n
mutual
theorem dd01 : ∀ t : Tr, t.dd 0 ≤ t.dd 1
  | .mk h ps => by
    have h1 := dds01 ps
    have h2 : wt 0 h ≤ wt 1 h := by
      cases h with
      | plain w =>
        show (if w = "wind" then 1 + 0 else 1) ≤ (if w = "wind" then 1 + 1 else 1)
        split <;> omega
      | _ => exact Nat.le_refl _
    show wt 0 h + Tr.dds 0 ps ≤ wt 1 h + Tr.dds 1 ps
    omega
theorem dds01 : ∀ ts : List Tr, Tr.dds 0 ts ≤ Tr.dds 1 ts
  | [] => Nat.le_refl _
  | t :: ts => by
    have h1 := dd01 t
    have h2 := dds01 ts
    show max (t.dd 0) (Tr.dds 0 ts) ≤ max (t.dd 1) (Tr.dds 1 ts)
    omega
end
theorem Gd.gm {d n : Nat} {t : Tr} (g : Gd d n t) : Gm d n t := ⟨g.ok, Nat.le_trans (dd01 t) g.dd, g.sz⟩
mutual
theorem gm_mw : ∀ (t : Tr) {d n : Nat}, Gd d n t → Gm d (2 * n) t.mw
  | .mk h ps, d, n, g => by
    have o : hok h ps.length ∧ ps.length ≤ 11 ∧ Tr.oks ps := g.ok
    have w : (isWind h = true → ps.length = 3) ∧ Tr.w3s ps := g.w3
    have h1 : wt 1 h + Tr.dds 1 ps ≤ d := g.dd
    have h2 : Tr.sizes ps + 1 ≤ n := g.sz
    have r := gms_mw ps (d := Tr.dds 1 ps) (n := Tr.sizes ps) ⟨o.2.2, w.2, Nat.le_refl _, Nat.le_refl _⟩
    have e : (Tr.mws ps).length = ps.length := by rw [mws_map, List.length_map]
    have r1 := r.dd
    have r2 := r.sz
    have r3 := r.ok
    show Gm d (2 * n) (.mk h (markMid h (Tr.mws ps)))
    by_cases z : isWind h = true
    · have l3 := w.1 z
      rw [← e] at l3
      generalize Tr.mws ps = qs at *
      match qs, l3 with
      | [a, b, c], _ =>
        have em : markMid h [a, b, c] = [a, .mk (.plain "mark") [b], c] := by unfold markMid; rw [if_pos z]
        rw [em]
        have e3 : ps.length = 3 := by rw [← e]; rfl
        obtain ⟨oa, ob, oc, _⟩ := r3
        cases h with
        | plain wd =>
          have z' : wd = "wind" := of_decide_eq_true z
          subst z'
          refine ⟨⟨o.1, Nat.le_of_ble_eq_true rfl, oa, ⟨show ("mark" : Str) ∈ plainW by decide, Nat.le_of_ble_eq_true rfl, ob, trivial⟩, oc, trivial⟩, ?_, ?_⟩
          · have r1' : max (a.dd 0) (max (b.dd 0) (max (c.dd 0) 0)) ≤ Tr.dds 1 ps := r1
            have h1' : 1 + 1 + Tr.dds 1 ps ≤ d := h1
            show (1 + 0) + max (a.dd 0) (max (1 + max (b.dd 0) 0) (max (c.dd 0) 0)) ≤ d
            omega
          · have r2' : a.size + (b.size + (c.size + 0)) ≤ 2 * Tr.sizes ps := r2
            show (a.size + ((b.size + 0 + 1) + (c.size + 0))) + 1 ≤ 2 * n
            omega
        | _ => cases z
    · have em : markMid h (Tr.mws ps) = Tr.mws ps := by unfold markMid; rw [if_neg z]
      rw [em]
      have h3 : wt 0 h ≤ wt 1 h := by
        cases h with
        | plain wd =>
          show (if wd = "wind" then 1 + 0 else 1) ≤ (if wd = "wind" then 1 + 1 else 1)
          split <;> omega
        | _ => exact Nat.le_refl _
      refine ⟨⟨by rw [e]; exact o.1, by rw [e]; exact o.2.1, r3⟩, ?_, ?_⟩
      · show wt 0 h + Tr.dds 0 (Tr.mws ps) ≤ d
        omega
      · show Tr.sizes (Tr.mws ps) + 1 ≤ 2 * n
        omega
theorem gms_mw : ∀ (ts : List Tr) {d n : Nat}, Gds d n ts → Gms d (2 * n) (Tr.mws ts)
  | [], _, _, g => ⟨trivial, Nat.zero_le _, Nat.zero_le _⟩
  | t :: ts, d, n, g => by
    have o : t.ok ∧ Tr.oks ts := g.ok
    have w : t.w3 ∧ Tr.w3s ts := g.w3
    have h1 : max (t.dd 1) (Tr.dds 1 ts) ≤ d := g.dd
    have h2 : t.size + Tr.sizes ts ≤ n := g.sz
    have a := gm_mw t (d := d) (n := t.size) ⟨o.1, w.1, by omega, Nat.le_refl _⟩
    have b := gms_mw ts (d := d) (n := n - t.size) ⟨o.2, w.2, by omega, by omega⟩
    refine ⟨⟨a.ok, b.ok⟩, ?_, ?_⟩
    · have := a.dd
      have := b.dd
      show max (t.mw.dd 0) (Tr.dds 0 (Tr.mws ts)) ≤ d
      omega
    · have := a.sz
      have := b.sz
      show t.mw.size + Tr.sizes (Tr.mws ts) ≤ 2 * n
      omega
end
end Cm

set_option linter.all false
/-! drawn trees: promises -/
namespace Cm
open PySem L2 PySem.Spec PyProof.Rows
theorem DpAll.some {K : PySem.W.Frag} {H : Hp} {v : V} : ∀ {vs : List V} {ds : List PyData}, DpAll K H vs ds → v ∈ vs → ∃ d, d ∈ ds ∧ Dp K H v d
  | _, _, .nil, m => by cases m
  | _, _, .cons a b, m => by
    rcases List.mem_cons.mp m with rfl | m
    · exact ⟨_, List.mem_cons_self, a⟩
    · obtain ⟨d, hm, hd⟩ := DpAll.some b m
      exact ⟨d, List.mem_cons_of_mem _ hm, hd⟩
theorem pick_of {K : PySem.W.Frag} {H : Hp} {h c : Addr} {v : V} {ds : List PyData} {Q : VK} {E : XK} (hh : Hand H h c) (hd : Dp K H v (.tuple ds)) (fl : flatDs ds = true) (n0 : ds ≠ []) (hl : ds.length ≤ 1000)
    (k : ∀ v' H' d, d ∈ ds → Kh h H H' → Hand H' h c → Dp K H' v' d → Q v' H') : spPick K [.ref h, v] H Q E := by
  obtain ⟨a, its, rfl, hs, hi⟩ := dp_tup hd
  have e := DpAll.len hi
  refine ⟨h, c, a, its, rfl, hh, .inr hs, ?_, by omega, fun v' H' m kh hh' => ?_⟩
  · intro z
    subst z
    cases hi
    exact n0 rfl
  · obtain ⟨d, m2, d2⟩ := DpAll.some hi m
    exact k v' H' d m2 kh hh' (dp_keep (fun _ _ q => kh.tup q) _ _ (flatDs_all fl d m2) d2)
/-- a drawn tree -/
def spGenT (K : PySem.W.Frag) (d n : Nat) : Sp := fun vs H Q _ => ∃ h c : Addr, vs = [.ref h] ∧ Hand H h c ∧ ∀ (v : V) (t : Tr) (H' : Hp), Kh h H H' → Hand H' h c → Dp K H' v t.enc → Gd d n t → Q v H'
/-- what a drawn part is -/
def IntS (d : PyData) : Prop := ∃ i : Int, d = .int i
def WordS (ws : List Str) (d : PyData) : Prop := ∃ w ∈ ws, d = .str w
def TreeS (d n : Nat) (e : PyData) : Prop := ∃ t : Tr, e = t.enc ∧ Gd d n t
theorem ex_draw {h c : Addr} {σ : L2.St} {H : Hp} {m : Int} {Q : VK} (h0 : σ[0]? = some (some (.ref h))) (hh : Hand H h c) (m0 : 0 < m := by decide) (m1 : m < 2 ^ 100 := by decide)
    (k : ∀ (n : Int) (H' : Hp), 0 ≤ n → n < m → Kh h H H' → Hand H' h c → Q (.int n) H') : tCall spDraw [] E0 (tCons (tVar 0) (tCons (tC (.int m)) tNil)) σ H Q :=
  ⟨_, h0, h, c, m, rfl, hh, m0, m1, k⟩
theorem ex_gen {K : PySem.W.Frag} {d n : Nat} {h c : Addr} {σ : L2.St} {H : Hp} {Q : VK} (h0 : σ[0]? = some (some (.ref h))) (hh : Hand H h c)
    (k : ∀ (v : V) (t : Tr) (H' : Hp), Kh h H H' → Hand H' h c → Dp K H' v t.enc → Gd d n t → Q v H') : tCall (spGenT K d n) [] E0 (tCons (tVar 0) tNil) σ H Q :=
  ⟨_, h0, h, c, rfl, hh, k⟩
/-- pick out of a display without drawn parts -/
theorem ex_pick {K : PySem.W.Frag} {h c : Addr} {σ : L2.St} {H : Hp} {ds : List GX} {Q : VK} (ρ : Nat → PyData) (h0 : σ[0]? = some (some (.ref h))) (hh : Hand H h c) (hf : HasF K ρ σ H (GX.slotss ds)) (he : GX.exss ds = []) (n0 : ds ≠ []) (hl : ds.length ≤ 1000)
    (k : ∀ v' H' d, d ∈ GX.datas ρ (fun _ => .int 0) ds → Kh h H H' → Hand H' h c → flatD d = true → Dp K H' v' d → Q v' H') : tCall (spPick K) [] E0 (tCons (tVar 0) (tCons (tG K (.tup ds)) tNil)) σ H Q := by
  refine ⟨_, h0, h, c, ρ, fun _ _ => True, hh, hf, ?_, fun v H1 τ kh hh1 _ ft dp => ?_⟩
  · show AllE K h c (fun _ _ => True) σ H (GX.exss ds)
    rw [he]
    trivial
  · have ed : GX.datas ρ τ ds = GX.datas ρ (fun _ => .int 0) ds := datas_eq ds (by rw [he]; intro n m; cases m)
    have fl : flatDs (GX.datas ρ τ ds) = true := flat_gdatas ds hf ft
    have dp' : Dp K H1 v (.tuple (GX.datas ρ τ ds)) := dp
    rw [ed] at dp' fl
    refine pick_of (E := E0) hh1 dp' fl ?_ (by rw [gdatas_len]; exact hl) fun v' H' d m kh' hh' dd => k v' H' d m (kh.trans kh') hh' (flatDs_all fl d m) dd
    intro z
    have := congrArg List.length z
    rw [gdatas_len] at this
    exact n0 (List.length_eq_zero_iff.mp this)
theorem Gd.cons {d d1 n m : Nat} {t : Tr} {ts : List Tr} (h : Gd d1 n t) (r : Gds d m ts) (e : d1 ≤ d := by omega) : Gds d (n + m) (t :: ts) := Gds.cons h r e
theorem gd_op {o : Str} {d n : Nat} {ps : List Tr} (so : sok o) (g : Gds d n ps) (l : ps.length ≤ 11 := by exact Nat.le_of_ble_eq_true rfl) : Gd (2 + d) (n + 1) (.mk (.op o) ps) := Gd.of (h := .op o) g so l
theorem gd_do {d n : Nat} {ps : List Tr} (g : Gds d n ps) (l : ps.length ≤ 11 := by exact Nat.le_of_ble_eq_true rfl) : Gd (2 + d) (n + 1) (.mk .doo ps) := Gd.of (h := .doo) g True.intro l
theorem gd_call {d n : Nat} {t : Tr} {ps : List Tr} (g : Gds d n (t :: ps)) (l : (t :: ps).length ≤ 11 := by exact Nat.le_of_ble_eq_true rfl) : Gd (2 + d) (n + 1) (.mk .call (t :: ps)) := Gd.of (h := .call) g (Nat.succ_le_succ (Nat.zero_le _)) l
theorem gd_fn {d n : Nat} {xs : List Str} {b : Tr} (hx : ∀ x ∈ xs, sok x) (g : Gd d n b) (l : xs.length ≤ 100 := by exact Nat.le_of_ble_eq_true rfl) : Gd (1 + d) (n + 1) (.mk (.fn xs) [b]) := Gd.of (h := .fn xs) (g.cons Gds.nil (Nat.le_refl _)) ⟨rfl, l, hx⟩
theorem gd_one {d n : Nat} {w x : Str} {b : Tr} (hw : w ∈ oneW) (hx : sok x) (g : Gd d n b) : Gd (1 + d) (n + 1) (.mk (.one w x) [b]) := Gd.of (h := .one w x) (g.cons Gds.nil (Nat.le_refl _)) ⟨rfl, hw, hx⟩
theorem gd_bind {d n : Nat} {w : Str} {xs : List Str} {ps : List Tr} (hw : w ∈ bindW) (hx : ∀ x ∈ xs, sok x) (g : Gds d n ps) (e : ps.length = xs.length + 1 := by rfl) (l : ps.length ≤ 11 := by exact Nat.le_of_ble_eq_true rfl) : Gd (3 + d) (n + 1) (.mk (.bind w xs) ps) := Gd.of (h := .bind w xs) g ⟨e, hw, hx⟩ l
theorem gd_plain {d n : Nat} {w : Str} {ps : List Tr} (hw : w ∈ plainW) (nw : isWind (.plain w) = false) (g : Gds d n ps) (l : ps.length ≤ 11 := by exact Nat.le_of_ble_eq_true rfl) : Gd (1 + d) (n + 1) (.mk (.plain w) ps) := by
  have := Gd.of (h := .plain w) g hw l (fun z => by rw [nw] at z; cases z)
  have e : wt 1 (.plain w) = 1 := if_neg (of_decide_eq_false nw)
  rw [e] at this
  exact this
theorem gd_show {d n : Nat} {b : Tr} (g : Gd d n b) : Gd (1 + d) (n + 1) (.mk (.plain "show") [b]) := gd_plain (by decide) (by decide +kernel) (g.cons Gds.nil (Nat.le_refl _))
theorem gd_mark {d n : Nat} {b : Tr} (g : Gd d n b) : Gd (1 + d) (n + 1) (.mk (.plain "mark") [b]) := gd_plain (by decide) (by decide +kernel) (g.cons Gds.nil (Nat.le_refl _))
theorem gd_if {d n : Nat} {ps : List Tr} (g : Gds d n ps) (l : ps.length ≤ 11 := by exact Nat.le_of_ble_eq_true rfl) : Gd (1 + d) (n + 1) (.mk (.plain "if") ps) := gd_plain (by decide) (by decide +kernel) g l
theorem gd_wind {d n : Nat} {a b c : Tr} (g : Gds d n [a, b, c]) : Gd (2 + d) (n + 1) (.mk (.plain "wind") [a, b, c]) := Gd.of (h := .plain "wind") g (show ("wind" : Str) ∈ plainW by decide) (w := fun _ => rfl)
theorem mvT {K : PySem.W.Frag} {h : Addr} {H H' : Hp} {v : V} {t : Tr} (kh : Kh h H H') (d : Dp K H v t.enc) : Dp K H' v t.enc := dp_keep (fun _ _ q => kh.tup q) _ _ (flat_enc t) d
/-- a display without drawn parts -/
theorem tg_pure {K : PySem.W.Frag} {h c : Addr} {σ : L2.St} {H : Hp} {d : GX} {Q : VK} (ρ : Nat → PyData) (hh : Hand H h c) (hf : HasF K ρ σ H d.slots) (he : d.exs = [])
    (k : ∀ v H', Kh h H H' → Hand H' h c → Dp K H' v (d.data ρ (fun _ => .int 0)) → Q v H') : tG K d σ H Q := by
  refine ⟨h, c, ρ, fun _ _ => True, hh, hf, ?_, fun v H' τ kh hh' _ _ dp => ?_⟩
  · rw [he]
    trivial
  · rw [data_eq (τ' := fun _ => .int 0) d (by rw [he]; intro n m; cases m)] at dp
    exact k v H' kh hh' dp
/-- a tree grown out of a tree, a name and a number -/
def spMore (K : PySem.W.Frag) : Sp := fun vs H Q _ => ∃ (h c : Addr) (v : V) (x : Str) (p : Int) (s : Tr) (d n : Nat), vs = [.ref h, v, .str x, .int p] ∧ Hand H h c ∧ Dp K H v s.enc ∧ Gd d n s ∧ 7 ≤ d ∧ sok x ∧
  ∀ (u : V) (t : Tr) (H' : Hp), Kh h H H' → Hand H' h c → Dp K H' u t.enc → Gd (6 + d) (n + 30) t → Q u H'
theorem words_of {ρ τ : Nat → PyData} {d : PyData} : ∀ {ws : List Str}, d ∈ GX.datas ρ τ (ws.map GX.str) → WordS ws d
  | w :: ws, m => by
    have m' : d ∈ PyData.str w :: GX.datas ρ τ (ws.map GX.str) := m
    rcases List.mem_cons.mp m' with rfl | m'
    · exact ⟨w, List.mem_cons_self, rfl⟩
    · obtain ⟨x, hx, e⟩ := words_of m'
      exact ⟨x, List.mem_cons_of_mem _ hx, e⟩
theorem trees_of {d n : Nat} {e : PyData} : ∀ {ts : List Tr}, e ∈ ts.map Tr.enc → (∀ t ∈ ts, Gd d n t) → TreeS d n e := fun m g => by
  obtain ⟨t, ht, rfl⟩ := List.mem_map.mp m
  exact ⟨t, rfl, g t ht⟩
theorem all_nil {α : Type} {P : α → Prop} : ∀ x ∈ ([] : List α), P x := fun x m => by cases m
theorem all_cons {α : Type} {P : α → Prop} {a : α} {l : List α} (h : P a) (r : ∀ x ∈ l, P x) : ∀ x ∈ a :: l, P x := fun x m => by
  rcases List.mem_cons.mp m with rfl | m
  · exact h
  · exact r x m
theorem iteIeq {n m : Int} {A B : Prop} (h : n = m) (a : A) : if decide (V.int n = V.int m) = true then A else B := by
  rw [dec_int, h, beq_self_eq_true]
  exact iteT a
theorem iteIne {n m : Int} {A B : Prop} (h : ¬ n = m) (b : B) : if decide (V.int n = V.int m) = true then A else B := by
  rw [dec_int, beq_eq_false_iff_ne.mpr h]
  exact iteF b
theorem Gm.mono {d n d' n' : Nat} {t : Tr} (h : Gm d n t) (a : d ≤ d') (b : n ≤ n') : Gm d' n' t := ⟨h.ok, Nat.le_trans h.dd a, Nat.le_trans h.sz b⟩
theorem gms0 {d : Nat} : Gms d 0 [] := ⟨trivial, Nat.zero_le _, Nat.zero_le _⟩
theorem Gms.cons {d1 d2 n m : Nat} {t : Tr} {ts : List Tr} (h : Gm d1 n t) (r : Gms d2 m ts) : Gms (max d1 d2) (n + m) (t :: ts) :=
  ⟨⟨h.ok, r.ok⟩, by
    have h1 := h.dd
    have h2 := r.dd
    show max (t.dd 0) (Tr.dds 0 ts) ≤ max d1 d2
    omega, by
    have h1 := h.sz
    have h2 := r.sz
    show t.size + Tr.sizes ts ≤ n + m
    omega⟩
theorem gms1 {d n : Nat} {t : Tr} (h : Gm d n t) : Gms d n [t] := by
  have := Gms.cons h (gms0 (d := d))
  rw [Nat.max_self] at this
  exact this
theorem gms2 {d1 d2 n m : Nat} {t u : Tr} (h : Gm d1 n t) (r : Gm d2 m u) : Gms (max d1 d2) (n + m) [t, u] := Gms.cons h (gms1 r)
theorem Gm.gms3 {d1 d2 d3 n m k : Nat} {t u v : Tr} (h : Gm d1 n t) (r : Gm d2 m u) (q : Gm d3 k v) : Gms (max d1 (max d2 d3)) (n + (m + k)) [t, u, v] := Gms.cons h (gms2 r q)
theorem gm_of {d d' n n' : Nat} {h : Hd} {ps : List Tr} (g : Gms d n ps) (o : hok h ps.length) (a : wt 0 h + d ≤ d') (b : n + 1 ≤ n') (l : ps.length ≤ 11 := by exact Nat.le_of_ble_eq_true rfl) : Gm d' n' (.mk h ps) := by
  refine ⟨⟨o, l, g.ok⟩, ?_, ?_⟩
  · have := g.dd
    show wt 0 h + Tr.dds 0 ps ≤ d'
    omega
  · have := g.sz
    show Tr.sizes ps + 1 ≤ n'
    omega
theorem gm_op {d n : Nat} {o : Str} {ps : List Tr} (so : sok o) (g : Gms d n ps) (l : ps.length ≤ 11 := by exact Nat.le_of_ble_eq_true rfl) : Gm (2 + d) (n + 1) (.mk (.op o) ps) := gm_of g so (Nat.le_refl _) (Nat.le_refl _) l
end Cm

set_option linter.all false
/-! displays of tuples whose parts may draw, with a room beside the hand -/
namespace Cm
open PySem L2 PySem.Spec PyProof.Rows
def Jr (H : Hp) (h c r : Addr) : Prop := ∃ k, Gn H h c r k
theorem Jr.refl {H : Hp} {h c r : Addr} (x : Jr H h c r) : Kr h r H H := x.elim fun _ x => x.refl
theorem Jr.same {H H' : Hp} {h c r : Addr} (x : Jr H h c r) (s : Same H H') : Jr H' h c r := x.elim fun k x => ⟨k, (x.same s).1⟩
theorem Jr.kp {H H' : Hp} {h c r : Addr} (x : Jr H h c r) (s : Same H H') : Kr h r H H' := x.elim fun k x => (x.same s).2
theorem Jr.hand {H : Hp} {h c r : Addr} (x : Jr H h c r) : Hand H h c := x.elim fun k x => x.hand
theorem Jr.draw {H H' : Hp} {h c r : Addr} (x : Jr H h c r) (kh : Kh h H H') (hh : Hand H' h c) : Jr H' h c r ∧ Kr h r H H' := x.elim fun k x => ⟨⟨k, (x.draw kh hh).1⟩, (x.draw kh hh).2⟩
/-- each part that draws gives data that is good, wherever it is asked -/
def AllR (K : PySem.W.Frag) (h c rm : Addr) (S : Nat → PyData → Prop) (σ : L2.St) (H : Hp) : List (Nat × TE) → Prop
  | [] => True
  | e :: r => (∀ H1, Kr h rm H H1 → Jr H1 h c rm → e.2 σ H1 fun x H2 => Kr h rm H1 H2 ∧ Jr H2 h c rm ∧ ∃ d, S e.1 d ∧ flatD d = true ∧ Dp K H2 x d) ∧ AllR K h c rm S σ H r
theorem AllR.kp {K : PySem.W.Frag} {h c rm : Addr} {S : Nat → PyData → Prop} {σ : L2.St} {H H' : Hp} (s : Kr h rm H H') : ∀ {l : List (Nat × TE)}, AllR K h c rm S σ H l → AllR K h c rm S σ H' l
  | [], _ => trivial
  | _ :: _, ⟨a, r⟩ => ⟨fun H1 k x => a H1 (s.trans k) x, AllR.kp s r⟩
theorem AllR.app {K : PySem.W.Frag} {h c rm : Addr} {S : Nat → PyData → Prop} {σ : L2.St} {H : Hp} : ∀ {l m : List (Nat × TE)}, AllR K h c rm S σ H (l ++ m) → AllR K h c rm S σ H l ∧ AllR K h c rm S σ H m
  | [], _, q => ⟨trivial, q⟩
  | _ :: _, _, ⟨a, r⟩ => ⟨⟨a, (AllR.app r).1⟩, (AllR.app r).2⟩
def tR (K : PySem.W.Frag) (d : GX) : TE := fun σ H Q => ∃ (h c rm : Addr) (ρ : Nat → PyData) (S : Nat → PyData → Prop), Jr H h c rm ∧ HasF K ρ σ H d.slots ∧ AllR K h c rm S σ H d.exs ∧
  ∀ v H' τ, Kr h rm H H' → Jr H' h c rm → AllS S τ d.exs → (∀ n, flatD (τ n) = true) → Dp K H' v (d.data ρ τ) → Q v H'
def tRs (K : PySem.W.Frag) (ds : List GX) : TA := fun σ H Q => ∃ (h c rm : Addr) (ρ : Nat → PyData) (S : Nat → PyData → Prop), Jr H h c rm ∧ HasF K ρ σ H (GX.slotss ds) ∧ AllR K h c rm S σ H (GX.exss ds) ∧
  ∀ vs H' τ, Kr h rm H H' → Jr H' h c rm → AllS S τ (GX.exss ds) → (∀ n, flatD (τ n) = true) → DpAll K H' vs (GX.datas ρ τ ds) → Q vs H'
section
variable {X : Cx} {K : PySem.W.Frag}
theorem pgr_str {x : Str} {j : Nat} {pos : Pos} : PE X (.Constant (.str x) j pos) (tR K (.str x)) :=
  ⟨fun pins s σ H Q I ⟨h, c, rm, ρ, S, hh, _, _, k⟩ => pe_str.run pins s σ H Q I (k _ H (fun _ => .none) hh.refl hh trivial (fun _ => rfl) (.str x))⟩
theorem pgr_int {i : Int} {j : Nat} {pos : Pos} : PE X (.Constant (.int i) j pos) (tR K (.int i)) :=
  ⟨fun pins s σ H Q I ⟨h, c, rm, ρ, S, hh, _, _, k⟩ => pe_int.run pins s σ H Q I (k _ H (fun _ => .none) hh.refl hh trivial (fun _ => rfl) (.int i))⟩
theorem pgr_slot {i : Nat} {e : Expr} (h : PE X e (tVar i)) : PE X e (tR K (.slot i)) :=
  ⟨fun pins s σ H Q I ⟨h', c, rm, ρ, S, hh, ⟨⟨v, ev, hv, _⟩, _⟩, _, k⟩ => h.run pins s σ H Q I ⟨v, ev, k v H (fun _ => .none) hh.refl hh trivial (fun _ => rfl) hv⟩⟩
theorem pgr_ex {e : Expr} {te : TE} (n : Nat) (he : PE X e te) : PE X e (tR K (.ex n te)) :=
  ⟨fun pins s σ H Q I ⟨h, c, rm, ρ, S, hh, _, a, k⟩ => wpAny_mono (he.run pins s σ H _ I (a.1 H hh.refl hh)) (fun u s1 ⟨x, H2, I2, r, ⟨k2, hh2, d, sd, fd, hd⟩⟩ =>
    ⟨x, H2, I2, r, k x H2 (fun _ => d) k2 hh2 ⟨sd, trivial⟩ (fun _ => fd) hd⟩) (fun _ _ z => z)⟩
theorem pgr_nil : PA X [] (tRs K []) :=
  ⟨fun pos pins s σ H Q I ⟨h, c, rm, ρ, S, hh, _, _, k⟩ => pa_nil.run pos pins s σ H Q I (k [] H (fun _ => .none) hh.refl hh trivial (fun _ => rfl) .nil)⟩
theorem pgr_cons {e : Expr} {es : List Expr} {d : GX} {ds : List GX} (hd : PE X e (tR K d)) (r : PA X es (tRs K ds)) (ap : apart d.exs (GX.exss ds) = true := by rfl)
    (hs : starEach (e :: es) X.env = (false, eval e X.env) :: starEach es X.env := by rfl) : PA X (e :: es) (tRs K (d :: ds)) :=
  ⟨fun pos pins s σ H Q I ⟨h, c, rm, ρ, S, hh, hf, ha, k⟩ => (pa_cons hd r hs).run pos pins s σ H Q I
    ⟨h, c, rm, ρ, S, hh, hf.app.1, ha.app.1, fun v H1 τ1 k1 hh1 a1 f1 hv => ⟨h, c, rm, ρ, S, hh1, hf.app.2.kp k1, ha.app.2.kp k1, fun vs H2 τ2 k2 hh2 a2 f2 hvs => by
      have no : ∀ n ∈ nums d.exs, ¬ n ∈ nums (GX.exss ds) := fun n m z => by
        have := List.all_eq_true.mp ap n m
        rw [List.contains_iff_mem.mpr z] at this
        cases this
      let τ : Nat → PyData := fun n => if n ∈ nums d.exs then τ1 n else τ2 n
      have e1 : ∀ n ∈ nums d.exs, τ1 n = τ n := fun n m => (if_pos m).symm
      have e2 : ∀ n ∈ nums (GX.exss ds), τ2 n = τ n := fun n m => (if_neg (fun z => no n z m)).symm
      refine k (v :: vs) H2 τ (k1.trans k2) hh2 (alls_app (alls_eq e1 a1) (alls_eq e2 a2)) (fun n => ?_) ?_
      · show flatD (if n ∈ nums d.exs then τ1 n else τ2 n) = true
        split
        · exact f1 n
        · exact f2 n
      · show DpAll K H2 (v :: vs) (d.data ρ τ :: GX.datas ρ τ ds)
        rw [← data_eq d e1, ← datas_eq ds e2]
        exact .cons (dp_keep (fun _ _ q => k2.tup q) _ _ (flat_gdata d hf.app.1 f1) hv) hvs⟩⟩⟩
theorem pgr_tup {es : List Expr} {ds : List GX} {k : Nat} {pos : Pos} (h : PA X es (tRs K ds)) (hl : ds.length ≤ 1000 := by exact Nat.le_of_ble_eq_true rfl) : PE X (.Tuple es k pos) (tR K (.tup ds)) :=
  ⟨fun pins s σ H Q I ⟨h', c, rm, ρ, S, hh, hf, ha, k⟩ => (pe_tup h).run pins s σ H Q I ⟨h', c, rm, ρ, S, hh, hf, ha, fun vs H1 τ k1 hh1 a1 f1 hvs => ⟨by
      have e := DpAll.len hvs
      rw [gdatas_len] at e
      rw [e]
      exact Nat.le_trans hl (by decide), fun p hp => k _ _ τ (k1.trans (hh1.kp (same_new hp))) (hh1.same (same_new hp)) a1 f1 (.tup (.inl (.inl upd_same)) (dps_same (same_new hp) _ _ hvs))⟩⟩⟩
end

/-- a display without drawn parts -/
theorem tr_pure {K : PySem.W.Frag} {h c rm : Addr} {σ : L2.St} {H : Hp} {d : GX} {Q : VK} (ρ : Nat → PyData) (hh : Jr H h c rm) (hf : HasF K ρ σ H d.slots) (he : d.exs = [])
    (k : ∀ v H', Kr h rm H H' → Jr H' h c rm → Dp K H' v (d.data ρ (fun _ => .int 0)) → Q v H') : tR K d σ H Q := by
  refine ⟨h, c, rm, ρ, fun _ _ => True, hh, hf, ?_, fun v H' τ kh hh' _ _ dp => ?_⟩
  · rw [he]
    trivial
  · rw [data_eq (τ' := fun _ => .int 0) d (by rw [he]; intro n m; cases m)] at dp
    exact k v H' kh hh' dp
/-- a drawn number, anywhere -/
theorem rx_draw {h c rm : Addr} {σ : L2.St} {H : Hp} {m : Int} {Q : VK} (h0 : σ[0]? = some (some (.ref h))) (hh : Jr H h c rm) (m0 : 0 < m := by decide) (m1 : m < 2 ^ 100 := by decide)
    (k : ∀ (n : Int) (H' : Hp), 0 ≤ n → n < m → Kr h rm H H' → Jr H' h c rm → Q (.int n) H') : tCall spDraw [] E0 (tCons (tVar 0) (tCons (tC (.int m)) tNil)) σ H Q :=
  ⟨_, h0, h, c, m, rfl, hh.hand, m0, m1, fun n H' n0 n1 kh hd => k n H' n0 n1 (hh.draw kh hd).2 (hh.draw kh hd).1⟩
theorem pick_words {K : PySem.W.Frag} {H : Hp} {h c rm a : Addr} {ws : List Str} {Q : VK} {E : XK} (hh : Jr H h c rm) (hs : SqT K H a (ws.map V.str)) (n0 : ws ≠ []) (hl : ws.length ≤ 1000)
    (k : ∀ (w : Str) (H' : Hp), w ∈ ws → Kr h rm H H' → Jr H' h c rm → Q (.str w) H') : spPick K [.ref h, .ref a] H Q E := by
  refine ⟨h, c, a, ws.map V.str, rfl, hh.hand, .inr hs, fun e => n0 (List.map_eq_nil_iff.mp e), by rw [List.length_map]; exact hl, fun v H' m kh hd => ?_⟩
  obtain ⟨w, hw, rfl⟩ := List.mem_map.mp m
  exact k w H' hw (hh.draw kh hd).2 (hh.draw kh hd).1
/-- pick out of a display of words -/
theorem rx_words {K : PySem.W.Frag} {h c rm : Addr} {σ : L2.St} {H : Hp} (ws : List Str) {Q : VK} (h0 : σ[0]? = some (some (.ref h))) (hh : Jr H h c rm) (n0 : ws ≠ []) (hl : ws.length ≤ 1000)
    (k : ∀ (w : Str) (H' : Hp), w ∈ ws → Kr h rm H H' → Jr H' h c rm → Q (.str w) H') : tCall (spPick K) [] E0 (tCons (tVar 0) (tCons (tR K (.tup (ws.map GX.str))) tNil)) σ H Q := by
  refine ⟨_, h0, tr_pure (fun _ => .int 0) hh ?_ ?_ fun v H1 kh hh1 dp => ?_⟩
  · have : ∀ l : List Str, GX.slotss (l.map GX.str) = [] := fun l => by
      induction l with
      | nil => rfl
      | cons a l ih => exact ih
    show HasF K _ σ H (GX.slotss (ws.map GX.str))
    rw [this]
    trivial
  · have : ∀ l : List Str, GX.exss (l.map GX.str) = [] := fun l => by
      induction l with
      | nil => rfl
      | cons a l ih => exact ih
    exact this ws
  · have e : ∀ l : List Str, GX.datas (fun _ => .int 0) (fun _ => .int 0) (l.map GX.str) = l.map PyData.str := fun l => by
      induction l with
      | nil => rfl
      | cons a l ih => exact congrArg (List.cons _) ih
    have dp' : Dp K H1 v (.tuple (GX.datas (fun _ => .int 0) (fun _ => .int 0) (ws.map GX.str))) := dp
    rw [e] at dp'
    obtain ⟨a, its, rfl, hs, hi⟩ := dp_tup dp'
    have := dpAll_strs_inv hi
    subst this
    exact pick_words (E := E0) hh1 hs n0 hl fun w H' hw kh' hh' => k w H' hw (kh.trans kh') hh'
theorem mvR {K : PySem.W.Frag} {h r : Addr} {H H' : Hp} {v : V} {t : Tr} (kh : Kr h r H H') (d : Dp K H v t.enc) : Dp K H' v t.enc := dp_keep (fun _ _ q => kh.tup q) _ _ (flat_enc t) d
end Cm

set_option linter.all false
/-! trees with good names; where the word "(set " can stand in a text -/
namespace Cm
open PySem L2 PySem.Spec PyProof.Rows
def patS : List Nat := [40, 115, 101, 116, 32]
def stp (q c : Nat) : Nat := if patS[q]? = some c then q + 1 else if c = 40 then 1 else 0
def scan : Nat → List Nat → Option Nat
  | q, [] => some q
  | q, c :: r => if stp q c = 5 then none else scan (stp q c) r
theorem scan_app : ∀ (a b : List Nat) (q : Nat), scan q (a ++ b) = (scan q a).bind fun p => scan p b
  | [], b, q => rfl
  | c :: a, b, q => by
    show (if stp q c = 5 then none else scan (stp q c) (a ++ b)) = (if stp q c = 5 then none else scan (stp q c) a).bind fun p => scan p b
    split
    · rfl
    · exact scan_app a b _
theorem stp_le {q c : Nat} (h : q ≤ 4) : stp q c ≤ 5 := by
  unfold stp
  split
  · omega
  · split <;> omega
theorem scan_le : ∀ (a : List Nat) {q p : Nat}, q ≤ 4 → scan q a = some p → p ≤ 4
  | [], q, p, h, e => by cases e; exact h
  | c :: a, q, p, h, e => by
    have e' : (if stp q c = 5 then none else scan (stp q c) a) = some p := e
    split at e'
    · cases e'
    · exact scan_le a (by have := stp_le (c := c) h; omega) e'
theorem scan_pat {q : Nat} (h : q ≤ 4) : ∀ b, scan q (patS ++ b) = none := fun b => by
  have key : ∀ q < 5, scan q patS = none := by decide +kernel
  rw [scan_app, key q (by omega)]
  rfl
theorem scan_none {l a b : List Nat} (e : l = a ++ (patS ++ b)) : scan 0 l = none := by
  rw [e, scan_app]
  cases z : scan 0 a with
  | none => rfl
  | some p => exact scan_pat (scan_le a (by decide) z) b
/-- a good name -/
def gw (x : Str) : Prop := sok x ∧ x.length ≤ 2 ∧ scan 0 x.cps.toList = some 0 ∧ scan 1 x.cps.toList = some 0
instance (x : Str) : Decidable (gw x) := by unfold gw; infer_instance
/-- a good operation -/
def go (x : Str) : Prop := sok x ∧ x.length ≤ 6 ∧ scan 0 x.cps.toList = some 0 ∧ scan 1 x.cps.toList = some 0
instance (x : Str) : Decidable (go x) := by unfold go; infer_instance
def gH : Hd → Prop
  | .num i => i.natAbs ≤ 1000000000
  | .name x => gw x
  | .op x => go x
  | .one _ x => gw x
  | .fn xs => ∀ x ∈ xs, gw x
  | .bind _ xs => ∀ x ∈ xs, gw x
  | _ => True
mutual
def Tr.gd : Tr → Prop
  | .mk h ps => gH h ∧ Tr.gds ps
def Tr.gds : List Tr → Prop
  | [] => True
  | t :: ts => t.gd ∧ Tr.gds ts
end
theorem gds_iff : ∀ {ps : List Tr}, Tr.gds ps ↔ ∀ t ∈ ps, t.gd
  | [] => by simp [Tr.gds]
  | t :: ts => by
    show t.gd ∧ Tr.gds ts ↔ _
    rw [gds_iff]
    simp
theorem gd_mk {h : Hd} {ps : List Tr} (a : gH h) (b : ∀ t ∈ ps, t.gd) : (Tr.mk h ps).gd := ⟨a, gds_iff.mpr b⟩
theorem gdNm {x : Str} (h : gw x) : (nameT x).gd := gd_mk h fun t m => by cases m
theorem gdNone : noneT.gd := gd_mk trivial fun t m => by cases m
theorem gdPair {t : Tr} (h : t.gd) : (pairT t).gd := gd_mk (show go "pair" by decide +kernel) fun u m => by
  rcases List.mem_cons.mp m with rfl | m
  · exact h
  · rw [List.mem_singleton.mp m]; exact gdNone
theorem gdFill {x : Str} {t : Tr} (hx : gw x) (h : t.gd) : (fillT x t).gd := gd_mk (show go "left!" by decide +kernel) fun u m => by
  rcases List.mem_cons.mp m with rfl | m
  · exact gdNm hx
  · rw [List.mem_singleton.mp m]; exact h
theorem gdWrap {anew : List Str} {h : Hd} {qs : List Tr} (a : gH h) (an : ∀ x ∈ anew, gw x) (b : ∀ t ∈ qs, t.gd) : (wrapL anew h qs).gd := by
  unfold wrapL
  split
  · exact gd_mk a b
  · refine gd_mk a fun t m => ?_
    rcases List.mem_append.mp m with m | m
    · exact b t (List.mem_of_mem_take m)
    · rw [List.mem_singleton.mp m]
      refine gd_mk an fun u mu => ?_
      rcases List.mem_append.mp mu with mu | mu
      · obtain ⟨x, mx, rfl⟩ := List.mem_map.mp mu
        exact gdPair (gdNm (an x mx))
      · exact b u (List.mem_of_mem_drop mu)
theorem gdRec {xs anew : List Str} {qs : List Tr} (hx : ∀ x ∈ xs, gw x) (an : ∀ x ∈ anew, gw x) (b : ∀ t ∈ qs, t.gd) : (recP xs anew qs).gd := by
  have zp : ∀ r ∈ xs.zip qs, gw r.1 ∧ r.2.gd := fun r m => by
    have z := List.of_mem_zip (show (r.1, r.2) ∈ xs.zip qs from m)
    exact ⟨hx _ z.1, b _ z.2⟩
  have inn : (Tr.mk .doo ((((xs.zip qs).filter fun r => decide (r.1 ∈ anew)).map fun r => fillT r.1 r.2) ++ qs.drop xs.length)).gd := gd_mk trivial fun t m => by
    rcases List.mem_append.mp m with m | m
    · obtain ⟨r, mr, rfl⟩ := List.mem_map.mp m
      have z := zp r (List.mem_filter.mp mr).1
      exact gdFill z.1 z.2
    · exact b t (List.mem_of_mem_drop m)
  unfold recP
  refine gd_mk an fun t m => ?_
  rcases List.mem_append.mp m with m | m
  · obtain ⟨x, _, rfl⟩ := List.mem_map.mp m
    exact gdPair gdNone
  · rw [List.mem_singleton.mp m]
    split
    · exact inn
    · refine gd_mk (fun x mx => ?_) fun u mu => ?_
      · obtain ⟨r, mr, rfl⟩ := List.mem_map.mp mx
        exact (zp r (List.mem_filter.mp mr).1).1
      · rcases List.mem_append.mp mu with mu | mu
        · obtain ⟨r, mr, rfl⟩ := List.mem_map.mp mu
          exact (zp r (List.mem_filter.mp mr).1).2
        · rw [List.mem_singleton.mp mu]
          exact inn
theorem held_gw {h : Hd} (g : gH h) : ∀ x ∈ held h, gw x := fun x m => by
  cases h with
  | fn xs => exact g x m
  | bind w xs => exact g x m
  | one w y =>
    have m' : x ∈ (if w = "set" then [] else [y] : List Str) := m
    split at m'
    · cases m'
    · rw [List.mem_singleton.mp m']; exact g
  | _ => cases m
theorem gdShape {hs : Str → Bool} {anew : List Str} {qs : List Tr} {h : Hd} (g : gH h) (an : ∀ x ∈ anew, x ∈ held h) (b : ∀ t ∈ qs, t.gd) : (shapeP hs anew qs h).gd := by
  have an' : ∀ x ∈ anew, gw x := fun x m => held_gw g x (an x m)
  have wr := gdWrap g an' b
  cases h with
  | name x =>
    show (if hs x = true then Tr.mk (.op "left") [nameT x] else .mk (.name x) qs).gd
    split
    · exact gd_mk (show go "left" by decide +kernel) fun t m => by rw [List.mem_singleton.mp m]; exact gdNm g
    · exact gd_mk g b
  | one w x =>
    show (if w = "set" then Tr.mk (.op "left!") (nameT x :: qs) else wrapL anew (.one w x) qs).gd
    split
    · refine gd_mk (show go "left!" by decide +kernel) fun t m => ?_
      rcases List.mem_cons.mp m with rfl | m
      · exact gdNm g
      · exact b t m
    · exact wr
  | bind w xs =>
    show (if w = "rec" ∧ anew ≠ [] then recP xs anew qs else wrapL anew (.bind w xs) qs).gd
    split
    · exact gdRec g an' b
    · exact wr
  | num i => exact wr
  | lit i => exact wr
  | fn i => exact wr
  | doo => exact wr
  | call => exact wr
  | op i => exact wr
  | plain i => exact wr
mutual
theorem gdTplain (hs : Str → Bool) : ∀ t : Tr, t.gd → (t.plain hs).gd
  | .mk h ps, g => by
    have g' : gH h ∧ Tr.gds ps := g
    exact gdShape g'.1 (fun x m => anew_sub m) (fun t m => gds_iff.mp (gdsTplain _ 0 ps g'.2) t m)
theorem gdsTplain (sc : Nat → Str → Bool) : ∀ (i : Nat) (ps : List Tr), Tr.gds ps → Tr.gds (Tr.plains sc i ps)
  | _, [], _ => trivial
  | i, t :: ts, g => by
    have g' : t.gd ∧ Tr.gds ts := g
    exact ⟨gdTplain (sc i) t g'.1, gdsTplain sc (i + 1) ts g'.2⟩
end
/-! ### good drawn trees -/
structure Gk (d n : Nat) (t : Tr) : Prop where
  ok : t.ok
  nw : t.nw
  gd : t.gd
  ld : t.ld ≤ 8 + d
  sz : t.size ≤ n
structure Gks (d n : Nat) (ts : List Tr) : Prop where
  al : ∀ t ∈ ts, t.ok ∧ t.nw ∧ t.gd ∧ t.ld ≤ 8 + d
  sz : Tr.sizes ts ≤ n
theorem Gk.mono {d n d' n' : Nat} {t : Tr} (h : Gk d n t) (a : d ≤ d') (b : n ≤ n') : Gk d' n' t := ⟨h.ok, h.nw, h.gd, by have := h.ld; omega, Nat.le_trans h.sz b⟩
theorem Gks.nil {d : Nat} : Gks d 0 [] := ⟨fun t m => (by cases m), Nat.zero_le _⟩
theorem Gk.cons {d d1 n m : Nat} {t : Tr} {ts : List Tr} (h : Gk d1 n t) (r : Gks d m ts) (e : d1 ≤ d := by omega) : Gks d (n + m) (t :: ts) :=
  ⟨fun u mu => by
    rcases List.mem_cons.mp mu with rfl | mu
    · exact ⟨h.ok, h.nw, h.gd, by have := h.ld; omega⟩
    · exact r.al u mu, by
    have h1 := h.sz
    have h2 := r.sz
    show t.size + Tr.sizes ts ≤ n + m
    omega⟩
def wk : Hd → Nat
  | .bind w _ => if w = "rec" then 6 else 3
  | .doo => 2
  | .call => 2
  | .op _ => 2
  | .fn _ => 2
  | .one _ _ => 2
  | _ => 1
theorem lw_wk (h : Hd) (j : Nat) : lw h j ≤ wk h := by
  cases h with
  | bind w xs =>
    show (if j < xs.length then (if w = "rec" then 6 else 3) else (if w = "rec" then 4 else 2)) ≤ (if w = "rec" then 6 else 3)
    split <;> split <;> omega
  | _ => exact Nat.le_refl _
theorem lo_8 (h : Hd) : lo h ≤ 8 := by cases h <;> exact Nat.le_of_ble_eq_true rfl
theorem Gk.of {h : Hd} {ps : List Tr} {d n : Nat} (g : Gks d n ps) (o : hok h ps.length) (gh : gH h) (nw : nwH h) (l : ps.length ≤ 11 := by exact Nat.le_of_ble_eq_true rfl) : Gk (wk h + d) (n + 1) (.mk h ps) :=
  ⟨⟨o, l, oks_iff.mpr fun t m => (g.al t m).1⟩, ⟨nw, nws_iff.mpr fun t m => (g.al t m).2.1⟩, gd_mk gh fun t m => (g.al t m).2.2.1, ld_le.mpr ⟨by have := lo_8 h; omega, fun j t e => by
    have := (g.al t (List.mem_of_getElem? e)).2.2.2
    have := lw_wk h j
    omega⟩, Nat.succ_le_succ g.sz⟩
theorem gk_leaf {h : Hd} (o : hok h 0) (gh : gH h) (nw : nwH h) (l : lo h ≤ 8 := by exact Nat.le_of_ble_eq_true rfl) : Gk 0 1 (.mk h []) :=
  ⟨⟨o, Nat.zero_le _, trivial⟩, ⟨nw, trivial⟩, ⟨gh, trivial⟩, ld_le.mpr ⟨by omega, fun j t e => (by cases e)⟩, Nat.le_refl _⟩
theorem gk_num {i : Int} (h : i.natAbs ≤ 1000000000) : Gk 0 1 (.mk (.num i) []) := gk_leaf (h := .num i) rfl h trivial
theorem gk_name {x : Str} (h : gw x) : Gk 0 1 (.mk (.name x) []) := gk_leaf (h := .name x) ⟨rfl, h.1⟩ h trivial
theorem gk_lit {w : Str} (h : w ∈ litW) : Gk 0 1 (.mk (.lit w) []) := gk_leaf (h := .lit w) ⟨rfl, h⟩ trivial trivial
theorem gk_op {o : Str} {d n : Nat} {ps : List Tr} (so : go o) (g : Gks d n ps) (l : ps.length ≤ 11 := by exact Nat.le_of_ble_eq_true rfl) : Gk (2 + d) (n + 1) (.mk (.op o) ps) := Gk.of (h := .op o) g so.1 so trivial l
theorem gk_do {d n : Nat} {ps : List Tr} (g : Gks d n ps) (l : ps.length ≤ 11 := by exact Nat.le_of_ble_eq_true rfl) : Gk (2 + d) (n + 1) (.mk .doo ps) := Gk.of (h := .doo) g True.intro trivial trivial l
theorem gk_call {d n : Nat} {t : Tr} {ps : List Tr} (g : Gks d n (t :: ps)) (l : (t :: ps).length ≤ 11 := by exact Nat.le_of_ble_eq_true rfl) : Gk (2 + d) (n + 1) (.mk .call (t :: ps)) := Gk.of (h := .call) g (Nat.succ_le_succ (Nat.zero_le _)) trivial trivial l
theorem gk_fn {d n : Nat} {xs : List Str} {b : Tr} (hx : ∀ x ∈ xs, gw x) (g : Gk d n b) (l : xs.length ≤ 10 := by exact Nat.le_of_ble_eq_true rfl) : Gk (2 + d) (n + 1) (.mk (.fn xs) [b]) := Gk.of (h := .fn xs) (g.cons Gks.nil (Nat.le_refl _)) ⟨rfl, by omega, fun x m => (hx x m).1⟩ hx l
theorem gk_one {d n : Nat} {w x : Str} {b : Tr} (hw : w ∈ oneW) (hx : gw x) (g : Gk d n b) : Gk (2 + d) (n + 1) (.mk (.one w x) [b]) := Gk.of (h := .one w x) (g.cons Gks.nil (Nat.le_refl _)) ⟨rfl, hw, hx.1⟩ hx trivial
theorem gk_bind {d n : Nat} {w : Str} {xs : List Str} {ps : List Tr} (hw : w ∈ bindW) (hx : ∀ x ∈ xs, gw x) (g : Gks d n ps) (e : ps.length = xs.length + 1 := by rfl) (l : ps.length ≤ 11 := by exact Nat.le_of_ble_eq_true rfl) : Gk (6 + d) (n + 1) (.mk (.bind w xs) ps) := by
  refine Gk.mono (Gk.of (h := .bind w xs) g ⟨e, hw, fun x m => (hx x m).1⟩ hx trivial l) ?_ (Nat.le_refl _)
  show (if w = "rec" then 6 else 3) + d ≤ 6 + d
  split <;> omega
theorem gk_let {d n : Nat} {xs : List Str} {ps : List Tr} (hx : ∀ x ∈ xs, gw x) (g : Gks d n ps) (e : ps.length = xs.length + 1 := by rfl) (l : ps.length ≤ 11 := by exact Nat.le_of_ble_eq_true rfl) : Gk (3 + d) (n + 1) (.mk (.bind "let" xs) ps) := by
  refine Gk.mono (Gk.of (h := .bind "let" xs) g ⟨e, by decide, fun x m => (hx x m).1⟩ hx trivial l) ?_ (Nat.le_refl _)
  show (if ("let" : Str) = "rec" then 6 else 3) + d ≤ 3 + d
  rw [if_neg (by decide +kernel)]
  exact Nat.le_refl _
theorem gk_plain {d n : Nat} {w : Str} {ps : List Tr} (hw : w ∈ plainW) (g : Gks d n ps) (l : ps.length ≤ 11 := by exact Nat.le_of_ble_eq_true rfl) : Gk (1 + d) (n + 1) (.mk (.plain w) ps) := Gk.of (h := .plain w) g hw trivial trivial l
theorem Gk.one {d n : Nat} {t : Tr} (g : Gk d n t) : Gks d n [t] := by
  have := g.cons (Gks.nil (d := d)) (Nat.le_refl _)
  exact this
theorem gk_show {d n : Nat} {b : Tr} (g : Gk d n b) : Gk (1 + d) (n + 1) (.mk (.plain "show") [b]) := gk_plain (by decide) g.one
theorem gk_mark {d n : Nat} {b : Tr} (g : Gk d n b) : Gk (1 + d) (n + 1) (.mk (.plain "mark") [b]) := gk_plain (by decide) g.one
theorem gk_if {d n : Nat} {ps : List Tr} (g : Gks d n ps) (l : ps.length ≤ 11 := by exact Nat.le_of_ble_eq_true rfl) : Gk (1 + d) (n + 1) (.mk (.plain "if") ps) := gk_plain (by decide) g l
theorem gk_wind {d n : Nat} {ps : List Tr} (g : Gks d n ps) (l : ps.length ≤ 11 := by exact Nat.le_of_ble_eq_true rfl) : Gk (1 + d) (n + 1) (.mk (.plain "wind") ps) := gk_plain (by decide) g l
end Cm

namespace K04
open PySem L2 Cm
/-- a small drawn tree -/
def spK (K : PySem.W.Frag) (d n : Nat) : Sp := fun vs H Q _ => ∃ (h c r nm : Addr) (known : List Str), vs = [.ref h, .ref nm] ∧ Jr H h c r ∧ SqT K H nm (known.map V.str) ∧ known.length ≤ 9 ∧ (∀ x ∈ known, gw x) ∧
  ∀ (v : V) (t : Tr) (H' : Hp), Kr h r H H' → Jr H' h c r → Dp K H' v t.enc → Gk d n t → Q v H'
def spNewName (K : PySem.W.Frag) : Sp := fun vs H Q _ => ∃ (nm : Addr) (known : List Str), vs = [.ref nm] ∧ SqT K H nm (known.map V.str) ∧ known.length ≤ 9 ∧ ∀ x : Str, gw x → Q (.str x) H
section
variable {P : Program} {w : World} {K : PySem.W.Frag} {mg : Str → Option Value} {base : Heap}
abbrev s_l_leaf : Stmt := top 20
abbrev N_l_leaf : List Str := ["_law_hand_here", "_law_known", "_law_pick_here"]
theorem sc_l_leaf : FnScope N_l_leaf ["_law_hand_here", "_law_known"] (defScope s_l_leaf) := ⟨rfl, rfl, rfl, by decide +kernel, rfl, by decide +kernel, by decide +kernel⟩
theorem ok_l_leaf (T : Txt mg) (c_l_draw : Cl P w K mg base 2 "_law_draw" spDraw) (D : At K mg "_law_leaf" s_l_leaf ["_law_hand_here", "_law_known"]) : Cl P w K mg base 3 "_law_leaf" (spK K 0 1) := by
  refine cl_of D sc_l_leaf (fun vs H Q E h => ?_) fun f cdv A outer s H vs Q E hr h => ?_
  · obtain ⟨h, c, r, nm, known, rfl, _⟩ := h
    rfl
  · obtain ⟨h, c, r, nm, known, rfl, hh, hn, hl, hk, k⟩ := h
    have hu := hu_of hr
    refine ⟨_, (pss_cons (ps_set (i := 2) sc_l_leaf.nd rfl (Or.inl rfl) (pe_c c_l_draw hr (by decide) (by rfl) (pa_cons (pv 0) (pa_cons pe_int pa_nil))))
      (pss_cons (ps_if (pt_cmpR op_eq (pv 2) pe_int (nomark _))
        (pss_one (ps_ret (pe_ix ix_tup (pgr_tup (K := K) (pgr_cons (pgr_tup (K := K) (pgr_cons pgr_str pgr_nil)) (pgr_cons (pgr_tup (K := K) (pgr_cons pgr_str pgr_nil)) (pgr_cons (pgr_tup (K := K) (pgr_cons pgr_str pgr_nil)) (pgr_cons (pgr_tup (K := K) (pgr_cons pgr_str (pgr_cons pgr_str pgr_nil))) (pgr_cons (pgr_tup (K := K) (pgr_cons pgr_str (pgr_cons pgr_str pgr_nil))) (pgr_cons (pgr_tup (K := K) (pgr_cons pgr_str (pgr_cons (pgr_ex 0 (pe_op op_pow pe_int pe_int)) pgr_nil))) pgr_nil))))))) (pe_c c_l_draw hr (by decide) (by rfl) (pa_cons (pv 0) (pa_cons pe_int pa_nil))) (fun _ _ => rfl))))
        pss_nil)
      (pss_cons (ps_if (PW.pt (pw_and (pt_cmpR op_lt (pv 2) pe_int (nomark _)) (pw_and1 (pt_cmpR op_gt (pe_callB call_len_seq (by rfl) T.len (by decide +kernel) (pa_cons (pv 1) pa_nil)) pe_int (nomark _)))))
        (pss_one (ps_ret (pgr_tup (K := K) (pgr_cons pgr_str (pgr_cons (pgr_ex 0 (pe_ix ix_tup (pv 1) (pe_op op_sub (pe_op op_sub (pe_callB call_len_seq (by rfl) T.len (by decide +kernel) (pa_cons (pv 1) pa_nil)) pe_int) (pe_c c_l_draw hr (by decide) (by rfl) (pa_cons (pv 0) (pa_cons (pe_callB (call_min2 rfl) (by rfl) T.min (by decide +kernel) (pa_cons pe_int (pa_cons (pe_callB call_len_seq (by rfl) T.len (by decide +kernel) (pa_cons (pv 1) pa_nil)) pa_nil))) pa_nil)))) (fun _ _ => rfl))) pgr_nil)))))
        pss_nil)
      (pss_one (ps_ret (pgr_tup (K := K) (pgr_cons pgr_str (pgr_cons (pgr_ex 0 (pe_c c_l_draw hr (by decide) (by rfl) (pa_cons (pv 0) (pa_cons pe_int pa_nil)))) pgr_nil)))))))), ?_⟩
    refine rx_draw rfl hh (by decide) (by decide) fun n H1 n0 n1 kh1 hh1 => ?_
    refine ⟨_, rfl, rfl, _, rfl, ?_⟩
    by_cases q : n = 23
    · refine iteIeq q ⟨h, c, r, fun _ => .int 0, fun _ d => d = .int 1000000000, hh1, True.intro, And.intro (fun H2 kh2 hh2 => ⟨_, _, rfl, rfl, ⟨by decide, by decide, by decide⟩, hh2.refl, hh2, .int 1000000000, rfl, rfl, by
        have e : ((10 : Int) ^ (9 : Int).toNat) = 1000000000 := by decide
        show Dp K H2 (.int ((10 : Int) ^ (9 : Int).toNat)) _
        rw [e]
        exact .int _⟩) True.intro, fun v H2 τ kh2 hh2 als ft dp => ?_⟩
      obtain ⟨ei, _⟩ := als
      have dp' : Dp K H2 v (.tuple [.tuple [.str "none"], .tuple [.str "true"], .tuple [.str "ask"], .tuple [.str "name", .str "k"], .tuple [.str "name", .str "p"], .tuple [.str "number", τ 0]]) := dp
      rw [show τ 0 = .int 1000000000 from ei] at dp'
      refine rx_draw rfl hh2 (by decide) (by decide) fun n H3 n0 n1 kh3 hh3 => ?_
      have fl : flatD (.tuple [.tuple [.str "none"], .tuple [.str "true"], .tuple [.str "ask"], .tuple [.str "name", .str "k"], .tuple [.str "name", .str "p"], .tuple [.str "number", .int 1000000000]]) = true := by decide
      obtain ⟨a, its, rfl, hs, hi⟩ := dp_tup (dp_keep (fun _ _ q => kh3.tup q) _ _ fl dp')
      have hl := DpAll.len hi
      obtain ⟨j, ej, hj⟩ : ∃ j : Nat, n = (j : Int) ∧ j < 6 := ⟨n.toNat, by omega, by omega⟩
      have hj' : j < its.length := by rw [hl]; exact hj
      have ev := List.getElem?_eq_getElem hj'
      obtain ⟨d, g1, g2⟩ := DpAll.atV hi ev
      have kk := (kh1.trans kh2).trans kh3
      refine ⟨a, its, _, _, rfl, rfl, hs, by rw [ej]; exact atI_nat ev, ?_⟩
      match j, hj, g1 with
      | 0, _, e => cases e; exact k _ (.mk (.lit "none") []) H3 kk hh3 g2 (gk_lit (by decide))
      | 1, _, e => cases e; exact k _ (.mk (.lit "true") []) H3 kk hh3 g2 (gk_lit (by decide))
      | 2, _, e => cases e; exact k _ (.mk (.lit "ask") []) H3 kk hh3 g2 (gk_lit (by decide))
      | 3, _, e => cases e; exact k _ (.mk (.name "k") []) H3 kk hh3 g2 (gk_name (by decide +kernel))
      | 4, _, e => cases e; exact k _ (.mk (.name "p") []) H3 kk hh3 g2 (gk_name (by decide +kernel))
      | 5, _, e => cases e; exact k _ (.mk (.num 1000000000) []) H3 kk hh3 g2 (gk_num (by decide))
    refine iteIne q ⟨_, rfl, _, _, rfl, rfl, _, rfl, ?_⟩
    have last : (tR K (.tup [.str "number", .ex 0 (tCall spDraw [] E0 (tCons (tVar 0) (tCons (tC (.int 10)) tNil)))]) [some (.ref h), some (.ref nm), some (.int n)] H1 fun v H => Q v H) := by
      refine ⟨h, c, r, fun _ => .int 0, fun _ d => ∃ i : Int, d = .int i ∧ 0 ≤ i ∧ i < 10, hh1, True.intro, And.intro (fun H2 kh2 hh2 => rx_draw rfl hh2 (by decide) (by decide) fun m H3 m0 m1 kh3 hh3 => ⟨kh3, hh3, _, ⟨m, rfl, m0, m1⟩, rfl, .int _⟩) True.intro, fun v H2 τ kh2 hh2 als ft dp => ?_⟩
      obtain ⟨⟨i, ei, i0, i1⟩, _⟩ := als
      have dp' : Dp K H2 v (.tuple [.str "number", τ 0]) := dp
      have ei' : τ 0 = .int i := ei
      rw [ei'] at dp'
      exact k v (.mk (.num i) []) H2 (kh1.trans kh2) hh2 dp' (gk_num (by omega))
    refine ite2 (fun _ => ?_) (fun _ => ?_)
    · refine ⟨_, rfl, nm, _, rfl, .inr (kh1.tup hn), _, _, rfl, rfl, _, rfl, ?_⟩
      refine ite2 (fun z0 => ?_) (fun _ => last)
      have ln : (0 : Int) < ((known.map V.str).length : Int) := of_decide_eq_true z0
      rw [List.length_map] at ln
      refine ⟨h, c, r, fun _ => .int 0, fun _ d => ∃ x ∈ known, d = .str x, hh1, True.intro, And.intro (fun H2 kh2 hh2 => ?_) True.intro, fun v H2 τ kh2 hh2 als ft dp => ?_⟩
      · have hn2 := kh2.tup (kh1.tup hn)
        refine ⟨_, rfl, _, rfl, nm, _, rfl, .inr hn2, _, _, rfl, rfl, _, rfl, _, rfl, nm, _, rfl, .inr hn2, _, _, rfl, ?_⟩
        refine ⟨h, c, _, rfl, hh2.hand, ?_, ?_, fun m H3 m0 m1 kh3 hd3 => ?_⟩
        · rw [List.length_map]
          split <;> omega
        · rw [List.length_map]
          exact Int.lt_of_le_of_lt (show (if (known.length : Int) < 3 then (known.length : Int) else 3) ≤ 3 by split <;> omega) (by decide)
        rw [List.length_map] at m1
        have m2 : m < known.length := by
          split at m1 <;> omega
        obtain ⟨hh3, kk3⟩ := hh2.draw kh3 hd3
        obtain ⟨j, ej, hj⟩ : ∃ j : Nat, (known.length : Int) - 1 - m = (j : Int) ∧ j < known.length := ⟨((known.length : Int) - 1 - m).toNat, by omega, by omega⟩
        have ev : (known.map V.str)[j]? = some (.str (known[j]'hj)) := by rw [List.getElem?_map, List.getElem?_eq_getElem hj]; rfl
        refine ⟨_, _, rfl, rfl, nm, _, _, _, rfl, rfl, kk3.tup hn2, ?_, kk3, hh3, _, ⟨_, List.getElem_mem hj, rfl⟩, rfl, .str _⟩
        show atI (known.map V.str) (((known.map V.str).length : Int) - 1 - m) = _
        rw [List.length_map, ej]
        exact atI_nat ev
      · obtain ⟨⟨x, hx, ei⟩, _⟩ := als
        have dp' : Dp K H2 v (.tuple [.str "name", τ 0]) := dp
        have ei' : τ 0 = .str x := ei
        rw [ei'] at dp'
        exact k v (.mk (.name x) []) H2 (kh1.trans kh2) hh2 dp' (gk_name (hk x hx))
    · exact last
end
end K04

namespace K04
open PySem L2 Cm
def TreeK (d n : Nat) (e : PyData) : Prop := ∃ t : Tr, e = t.enc ∧ Gk d n t
def NumK (d : PyData) : Prop := ∃ i : Int, d = .int i ∧ i.natAbs ≤ 1000000000
theorem rx_k {K : PySem.W.Frag} {d n i : Nat} {h c r nm : Addr} {known : List Str} {σ : L2.St} {H : Hp} {Q : VK} (h0 : σ[0]? = some (some (.ref h))) (hi : σ[i]? = some (some (.ref nm))) (hh : Jr H h c r) (hn : SqT K H nm (known.map V.str)) (hl : known.length ≤ 9) (hk : ∀ x ∈ known, gw x)
    (k : ∀ (v : V) (t : Tr) (H' : Hp), Kr h r H H' → Jr H' h c r → Dp K H' v t.enc → Gk d n t → Q v H') : tCall (spK K d n) [] E0 (tCons (tVar 0) (tCons (tVar i) tNil)) σ H Q :=
  ⟨_, h0, _, hi, h, c, r, nm, known, rfl, hh, hn, hl, hk, k⟩
/-- one and a drawn number -/
theorem rx_one {h c rm : Addr} {σ : L2.St} {H : Hp} {m : Int} {Q : VK} (h0 : σ[0]? = some (some (.ref h))) (hh : Jr H h c rm) (m0 : 0 < m := by decide) (m1 : m ≤ 1000 := by decide)
    (k : ∀ (n : Int) (H' : Hp), n.natAbs ≤ 1000000000 → Kr h rm H H' → Jr H' h c rm → Q (.int n) H') : tOp (rI0 fun i j => .int (i + j)) (tC (.int 1)) (tCall spDraw [] E0 (tCons (tVar 0) (tCons (tC (.int m)) tNil))) σ H Q :=
  rx_draw h0 hh m0 (Int.lt_of_le_of_lt m1 (by decide)) fun n H' n0 n1 kh hh' => ⟨_, _, rfl, rfl, k _ H' (by omega) kh hh'⟩
theorem gw_new : ∀ n : Nat, n ≤ 9 → ((n : Nat) : Int).natAbs.log2 < 1920 ∧ gw (("v" : Str) ++ (toString ((n : Nat) : Int) : Str)) ∧ ("v" : Str).length + (toString ((n : Nat) : Int) : Str).length ≤ sizeLine := by decide +kernel
section
variable {P : Program} {w : World} {K : PySem.W.Frag} {mg : Str → Option Value} {base : Heap}
abbrev s_l_new_name : Stmt := top 21
abbrev N_l_new_name : List Str := ["_law_known"]
theorem sc_l_new_name : FnScope N_l_new_name ["_law_known"] (defScope s_l_new_name) := ⟨rfl, rfl, rfl, by decide +kernel, rfl, by decide +kernel, by decide +kernel⟩
theorem ok_l_new_name (T : Txt mg) (D : At K mg "_law_new_name" s_l_new_name ["_law_known"]) : Cl P w K mg base 1 "_law_new_name" (spNewName K) := by
  refine cl_of D sc_l_new_name (fun vs H Q E h => ?_) fun f cdv A outer s H vs Q E hr h => ?_
  · obtain ⟨nm, known, rfl, _⟩ := h
    rfl
  · obtain ⟨nm, known, rfl, hn, hl, k⟩ := h
    refine ⟨_, (pss_one (ps_ret (pe_op op_add_str pe_str (pe_callTy call_str_int (by rfl) T.str (by decide +kernel) (pa_cons (pe_callB call_len_seq (by rfl) T.len (by decide +kernel) (pa_cons (pv 0) pa_nil)) pa_nil))))), ?_⟩
    obtain ⟨g1, g2, g3⟩ := gw_new known.length hl
    refine ⟨_, rfl, nm, _, rfl, .inr hn, _, rfl, ?_, _, _, rfl, rfl, ?_, ?_⟩
    · rw [List.length_map]; exact g1
    · rw [List.length_map]; exact g3
    · rw [List.length_map]; exact k _ g2
abbrev s_l_again : Stmt := top 23
abbrev N_l_again : List Str := ["_law_hand_here", "_law_known", "_law_back", "_law_most", "_law_more"]
theorem sc_l_again : FnScope N_l_again ["_law_hand_here", "_law_known"] (defScope s_l_again) := ⟨rfl, rfl, rfl, by decide +kernel, rfl, by decide +kernel, by decide +kernel⟩
theorem ok_l_again (T : Txt mg) (c_l_draw : Cl P w K mg base 2 "_law_draw" spDraw) (c_l_leaf : Cl P w K mg base 3 "_law_leaf" (spK K 0 1)) (D : At K mg "_law_again" s_l_again ["_law_hand_here", "_law_known"]) : Cl P w K mg base 4 "_law_again" (spK K 7 20) := by
  refine cl_of D sc_l_again (fun vs H Q E h => ?_) fun f cdv A outer s H vs Q E hr h => ?_
  · obtain ⟨h, c, r, nm, known, rfl, _⟩ := h
    rfl
  · obtain ⟨h, c, r, nm, known, rfl, hh, hn, hl, hk, k⟩ := h
    have hu := hu_of hr
    refine ⟨_, (pss_cons (ps_set (i := 2) sc_l_again.nd rfl (Or.inl rfl) (pgr_tup (K := K) (pgr_cons pgr_str (pgr_cons (pgr_tup (K := K) (pgr_cons pgr_str (pgr_cons pgr_str pgr_nil))) (pgr_cons (pgr_tup (K := K) (pgr_cons (pgr_ex 0 (pe_c c_l_leaf hr (by decide) (by rfl) (pa_cons (pv 0) (pa_cons (pv 1) pa_nil)))) pgr_nil)) pgr_nil)))))
      (pss_cons (ps_set (i := 3) sc_l_again.nd rfl (Or.inl rfl) (pgr_tup (K := K) (pgr_cons pgr_str (pgr_cons (pgr_ex 0 (pe_op op_add pe_int (pe_c c_l_draw hr (by decide) (by rfl) (pa_cons (pv 0) (pa_cons pe_int pa_nil))))) pgr_nil))))
      (pss_cons (ps_set (i := 4) sc_l_again.nd rfl (Or.inl rfl) (pgr_tup (K := K) (pgr_cons pgr_str (pgr_cons (pgr_tup (K := K) (pgr_cons (pgr_tup (K := K) (pgr_cons pgr_str (pgr_cons pgr_str (pgr_cons (pgr_tup (K := K) (pgr_cons pgr_str (pgr_cons pgr_str (pgr_cons (pgr_tup (K := K) (pgr_cons (pgr_tup (K := K) (pgr_cons pgr_str (pgr_cons pgr_str pgr_nil))) (pgr_cons (pgr_tup (K := K) (pgr_cons pgr_str (pgr_cons pgr_int pgr_nil))) pgr_nil))) pgr_nil)))) pgr_nil)))) (pgr_cons (pgr_tup (K := K) (pgr_cons pgr_str (pgr_cons (pgr_tup (K := K) (pgr_cons pgr_str (pgr_cons pgr_str (pgr_cons (pgr_tup (K := K) (pgr_cons (pgr_tup (K := K) (pgr_cons pgr_str (pgr_cons pgr_str pgr_nil))) pgr_nil)) pgr_nil)))) (pgr_cons (pgr_slot (pv 2)) (pgr_cons (pgr_tup (K := K) (pgr_cons pgr_str (pgr_cons pgr_str pgr_nil))) pgr_nil))))) pgr_nil))) pgr_nil))))
      (pss_one (ps_ret (pgr_tup (K := K) (pgr_cons pgr_str (pgr_cons (pgr_tup (K := K) (pgr_cons pgr_str (pgr_cons pgr_str (pgr_cons (pgr_tup (K := K) (pgr_cons (pgr_tup (K := K) (pgr_cons pgr_str (pgr_cons pgr_str pgr_nil))) (pgr_cons (pgr_slot (pv 3)) pgr_nil))) pgr_nil)))) (pgr_cons (pgr_slot (pv 4)) (pgr_cons (pgr_tup (K := K) (pgr_cons pgr_str (pgr_cons (pgr_tup (K := K) (pgr_cons pgr_str (pgr_cons pgr_str pgr_nil))) pgr_nil))) pgr_nil)))))))))), ?_⟩
    have wn : gw "n" := by decide +kernel
    have wk' : gw "k" := by decide +kernel
    refine ⟨h, c, r, fun _ => .int 0, fun _ => TreeK 0 1, hh, True.intro, And.intro (fun H1 kh1 hh1 => rx_k rfl rfl hh1 (kh1.tup hn) hl hk fun v' t H' kh' hh' dd g => ⟨kh', hh', t.enc, ⟨t, rfl, g⟩, flat_enc t, dd⟩) True.intro, fun v2 H2 τ kh2 hh2 als ft dp => ?_⟩
    obtain ⟨⟨lf, e0, glf⟩, _⟩ := als
    have dp' : Dp K H2 v2 (.tuple [.str "call", (Tr.mk (.name "k") []).enc, .tuple [τ 0]]) := dp
    rw [show τ 0 = lf.enc from e0] at dp'
    have d2 : Dp K H2 v2 (Tr.mk .call [.mk (.name "k") [], lf]).enc := dp'
    have g2 : Gk 2 3 (.mk .call [.mk (.name "k") [], lf]) := gk_call (d := 0) ((gk_name wk').cons (glf.cons Gks.nil))
    generalize Tr.mk .call [.mk (.name "k") [], lf] = back at *
    refine ⟨h, c, r, fun _ => .int 0, fun _ => NumK, hh2, True.intro, And.intro (fun H3 kh3 hh3 => rx_one rfl hh3 (by decide) (by decide) fun m H4 hm kh4 hh4 => ⟨kh4, hh4, _, ⟨_, rfl, hm⟩, rfl, .int _⟩) True.intro, fun v3 H3 τ kh3 hh3 als ft dp => ?_⟩
    obtain ⟨⟨i, e1, hi⟩, _⟩ := als
    have dp' : Dp K H3 v3 (.tuple [.str "number", τ 0]) := dp
    rw [show τ 0 = .int i from e1] at dp'
    have d3 : Dp K H3 v3 (Tr.mk (.num i) []).enc := dp'
    have g3 : Gk 0 1 (.mk (.num i) []) := gk_num hi
    generalize Tr.mk (.num i) [] = most at *
    refine tr_pure (fun _ => back.enc) hh3 (And.intro ⟨_, rfl, mvR kh3 d2, flat_enc _⟩ True.intro) rfl fun v4 H4 kh4 hh4 d4 => ?_
    have g4 : Gk 6 12 (.mk .doo [.mk (.one "set" "n") [.mk (.op "+") [.mk (.name "n") [], .mk (.num 1) []]], .mk (.plain "if") [.mk (.op "rest?") [.mk (.name "k") []], back, .mk (.name "n") []]]) :=
      (gk_do (d := 4) ((gk_one (by decide) wn (gk_op (d := 0) (by decide +kernel) ((gk_name wn).cons ((gk_num (by decide)).cons Gks.nil)))).cons ((gk_if (d := 2) ((gk_op (d := 0) (by decide +kernel) ((gk_name wk').cons Gks.nil)).cons (g2.cons ((gk_name wn).cons Gks.nil)))).cons Gks.nil))).mono (by omega) (by omega)
    have d4' : Dp K H4 v4 (Tr.mk .doo [.mk (.one "set" "n") [.mk (.op "+") [.mk (.name "n") [], .mk (.num 1) []]], .mk (.plain "if") [.mk (.op "rest?") [.mk (.name "k") []], back, .mk (.name "n") []]]).enc := d4
    generalize Tr.mk .doo [.mk (.one "set" "n") [.mk (.op "+") [.mk (.name "n") [], .mk (.num 1) []]], .mk (.plain "if") [.mk (.op "rest?") [.mk (.name "k") []], back, .mk (.name "n") []]] = more at *
    refine tr_pure (fun | 3 => most.enc | _ => more.enc) hh4 (And.intro ⟨_, rfl, mvR kh4 d3, flat_enc _⟩ (And.intro ⟨_, rfl, d4', flat_enc _⟩ True.intro)) rfl fun v5 H5 kh5 hh5 d5 => ?_
    exact k v5 (.mk (.plain "if") [.mk (.op "<") [.mk (.name "n") [], most], more, .mk (.plain "show") [.mk (.name "n") []]]) H5 (((kh2.trans kh3).trans kh4).trans kh5) hh5 d5
      ((gk_if (d := 6) ((gk_op (d := 0) (by decide +kernel) ((gk_name wn).cons (g3.cons Gks.nil))).cons (g4.cons ((gk_show (gk_name wn)).cons Gks.nil)))).mono (by omega) (by omega))
abbrev s_l_deed : Stmt := top 22
abbrev N_l_deed : List Str := ["_law_hand_here", "_law_known", "_law_pick_here", "_law_show"]
theorem sc_l_deed : FnScope N_l_deed ["_law_hand_here", "_law_known"] (defScope s_l_deed) := ⟨rfl, rfl, rfl, by decide +kernel, rfl, by decide +kernel, by decide +kernel⟩
theorem ok_l_deed (T : Txt mg) (c_l_draw : Cl P w K mg base 2 "_law_draw" spDraw) (c_l_leaf : Cl P w K mg base 3 "_law_leaf" (spK K 0 1)) (c_l_again : Cl P w K mg base 4 "_law_again" (spK K 7 20)) (D : At K mg "_law_deed" s_l_deed ["_law_hand_here", "_law_known"]) : Cl P w K mg base 5 "_law_deed" (spK K 10 30) := by
  refine cl_of D sc_l_deed (fun vs H Q E h => ?_) fun f cdv A outer s H vs Q E hr h => ?_
  · obtain ⟨h, c, r, nm, known, rfl, _⟩ := h
    rfl
  · obtain ⟨h, c, r, nm, known, rfl, hh, hn, hl, hk, k⟩ := h
    have hu := hu_of hr
    refine ⟨_, (pss_cons (ps_set (i := 2) sc_l_deed.nd rfl (Or.inl rfl) (pe_c c_l_draw hr (by decide) (by rfl) (pa_cons (pv 0) (pa_cons pe_int pa_nil))))
      (pss_cons (ps_set (i := 3) sc_l_deed.nd rfl (Or.inl rfl) (pgr_tup (K := K) (pgr_cons pgr_str (pgr_cons (pgr_ex 0 (pe_c c_l_leaf hr (by decide) (by rfl) (pa_cons (pv 0) (pa_cons (pv 1) pa_nil)))) pgr_nil))))
      (pss_cons (ps_if (pt_cmpR op_eq (pv 2) pe_int (nomark _))
        (pss_one (ps_ret (pgr_tup (K := K) (pgr_cons pgr_str (pgr_cons (pgr_tup (K := K) pgr_nil) (pgr_cons (pgr_tup (K := K) (pgr_cons pgr_str (pgr_cons (pgr_tup (K := K) (pgr_cons (pgr_slot (pv 3)) (pgr_cons (pgr_tup (K := K) (pgr_cons pgr_str (pgr_cons pgr_str (pgr_cons (pgr_tup (K := K) (pgr_cons pgr_str (pgr_cons pgr_str (pgr_cons (pgr_tup (K := K) (pgr_cons pgr_str (pgr_cons pgr_str pgr_nil))) pgr_nil)))) pgr_nil)))) pgr_nil))) pgr_nil))) pgr_nil))))))
        pss_nil)
      (pss_cons (ps_if (pt_cmpR op_eq (pv 2) pe_int (nomark _))
        (pss_one (ps_ret (pgr_tup (K := K) (pgr_cons pgr_str (pgr_cons (pgr_tup (K := K) pgr_nil) (pgr_cons (pgr_tup (K := K) (pgr_cons pgr_str (pgr_cons (pgr_tup (K := K) (pgr_cons (pgr_slot (pv 3)) (pgr_cons (pgr_tup (K := K) (pgr_cons pgr_str (pgr_cons pgr_str (pgr_cons (pgr_tup (K := K) (pgr_cons pgr_str (pgr_cons (pgr_tup (K := K) (pgr_cons (pgr_tup (K := K) (pgr_cons pgr_str (pgr_cons pgr_str (pgr_cons (pgr_tup (K := K) (pgr_cons pgr_str (pgr_cons pgr_str pgr_nil))) pgr_nil)))) (pgr_cons (pgr_tup (K := K) (pgr_cons pgr_str (pgr_cons (pgr_tup (K := K) (pgr_cons pgr_str (pgr_cons pgr_str pgr_nil))) (pgr_cons (pgr_tup (K := K) (pgr_cons (pgr_tup (K := K) (pgr_cons pgr_str (pgr_cons pgr_int pgr_nil))) pgr_nil)) pgr_nil)))) pgr_nil))) pgr_nil))) pgr_nil)))) pgr_nil))) pgr_nil))) pgr_nil))))))
        pss_nil)
      (pss_cons (ps_if (pt_cmpR op_eq (pv 2) pe_int (nomark _))
        (pss_one (ps_ret (pgr_tup (K := K) (pgr_cons pgr_str (pgr_cons (pgr_tup (K := K) pgr_nil) (pgr_cons (pgr_tup (K := K) (pgr_cons pgr_str (pgr_cons (pgr_tup (K := K) (pgr_cons pgr_str (pgr_cons pgr_str (pgr_cons (pgr_tup (K := K) (pgr_cons (pgr_tup (K := K) (pgr_cons pgr_str (pgr_cons pgr_str pgr_nil))) (pgr_cons (pgr_tup (K := K) (pgr_cons pgr_str (pgr_cons (pgr_ex 0 (pe_op op_add pe_int (pe_c c_l_draw hr (by decide) (by rfl) (pa_cons (pv 0) (pa_cons pe_int pa_nil))))) pgr_nil))) pgr_nil))) pgr_nil)))) (pgr_cons (pgr_slot (pv 3)) (pgr_cons (pgr_ex 1 (pe_c c_l_again hr (by decide) (by rfl) (pa_cons (pv 0) (pa_cons (pv 1) pa_nil)))) pgr_nil))))) pgr_nil))))))
        pss_nil)
      (pss_one (ps_ret (pgr_tup (K := K) (pgr_cons pgr_str (pgr_cons (pgr_tup (K := K) pgr_nil) (pgr_cons (pgr_slot (pv 3)) pgr_nil))))))))))), ?_⟩
    have wn : gw "n" := by decide +kernel
    have wk' : gw "k" := by decide +kernel
    have wj : gw "j" := by decide +kernel
    have ww : gw "w" := by decide +kernel
    refine rx_draw rfl hh (by decide) (by decide) fun n H1 n0 n1 kh1 hh1 => ?_
    have hn1 := kh1.tup hn
    refine ⟨h, c, r, fun _ => .int 0, fun _ => TreeK 0 1, hh1, True.intro, And.intro (fun H2 kh2 hh2 => rx_k rfl rfl hh2 (kh2.tup hn1) hl hk fun v' t H' kh' hh' dd g => ⟨kh', hh', t.enc, ⟨t, rfl, g⟩, flat_enc t, dd⟩) True.intro, fun v2 H2 τ kh2 hh2 als ft dp => ?_⟩
    obtain ⟨⟨lf, e0, glf⟩, _⟩ := als
    have dp' : Dp K H2 v2 (.tuple [.str "show", τ 0]) := dp
    rw [show τ 0 = lf.enc from e0] at dp'
    have d2 : Dp K H2 v2 (Tr.mk (.plain "show") [lf]).enc := dp'
    have g2 : Gk 1 2 (.mk (.plain "show") [lf]) := gk_show glf
    generalize Tr.mk (.plain "show") [lf] = sh at *
    have hn2 := kh2.tup hn1
    have kh02 := kh1.trans kh2
    refine ⟨_, rfl, rfl, _, rfl, ?_⟩
    by_cases q : n = 0
    · refine iteIeq q (tr_pure (fun _ => sh.enc) hh2 (And.intro ⟨_, rfl, d2, flat_enc _⟩ True.intro) rfl fun v3 H3 kh3 hh3 d3 => ?_)
      exact k v3 (.mk (.fn []) [.mk .doo [sh, .mk (.one "set" "k") [.mk (.one "keep" "w") [.mk (.name "w") []]]]]) H3 (kh02.trans kh3) hh3 d3
        ((gk_fn all_nil (gk_do (d := 4) (g2.cons ((gk_one (by decide) wk' (gk_one (by decide) ww (gk_name ww))).cons Gks.nil)))).mono (by omega) (by omega))
    refine iteIne q ⟨_, rfl, rfl, _, rfl, ?_⟩
    by_cases q : n = 1
    · refine iteIeq q (tr_pure (fun _ => sh.enc) hh2 (And.intro ⟨_, rfl, d2, flat_enc _⟩ True.intro) rfl fun v3 H3 kh3 hh3 d3 => ?_)
      exact k v3 (.mk (.fn []) [.mk .doo [sh, .mk (.one "take" "w") [.mk .doo [.mk (.one "set" "j") [.mk (.name "w") []], .mk .call [.mk (.name "w") [], .mk (.num 1) []]]]]]) H3 (kh02.trans kh3) hh3 d3
        ((gk_fn all_nil (gk_do (d := 6) (g2.cons ((gk_one (by decide) ww (gk_do (d := 2) ((gk_one (by decide) wj (gk_name ww)).cons ((gk_call (d := 0) ((gk_name ww).cons ((gk_num (by decide)).cons Gks.nil))).cons Gks.nil)))).cons Gks.nil)))).mono (by omega) (by omega))
    refine iteIne q ⟨_, rfl, rfl, _, rfl, ?_⟩
    by_cases q : n = 2
    · refine iteIeq q ⟨h, c, r, fun _ => sh.enc, fun | 0 => NumK | _ => TreeK 7 20, hh2, And.intro ⟨_, rfl, d2, flat_enc _⟩ True.intro, And.intro (fun H3 kh3 hh3 => rx_one rfl hh3 (by decide) (by decide) fun m H4 hm kh4 hh4 => ⟨kh4, hh4, _, ⟨_, rfl, hm⟩, rfl, .int _⟩) (And.intro (fun H3 kh3 hh3 => rx_k rfl rfl hh3 (kh3.tup hn2) hl hk fun v' t H' kh' hh' dd g => ⟨kh', hh', t.enc, ⟨t, rfl, g⟩, flat_enc t, dd⟩) True.intro), fun v3 H3 τ kh3 hh3 als ft dp => ?_⟩
      obtain ⟨⟨i, e1, hi⟩, ⟨ag, e2, gag⟩, _⟩ := als
      have dp' : Dp K H3 v3 (.tuple [.str "fn", .tuple [], .tuple [.str "if", .tuple [.str "op", .str "<", .tuple [(Tr.mk (.name "n") []).enc, .tuple [.str "number", τ 0]]], sh.enc, τ 1]]) := dp
      rw [show τ 0 = .int i from e1, show τ 1 = ag.enc from e2] at dp'
      exact k v3 (.mk (.fn []) [.mk (.plain "if") [.mk (.op "<") [.mk (.name "n") [], .mk (.num i) []], sh, ag]]) H3 (kh02.trans kh3) hh3 dp'
        ((gk_fn all_nil (gk_if (d := 7) ((gk_op (d := 0) (by decide +kernel) ((gk_name wn).cons ((gk_num hi).cons Gks.nil))).cons (g2.cons (gag.cons Gks.nil))))).mono (by omega) (by omega))
    refine iteIne q (tr_pure (fun _ => sh.enc) hh2 (And.intro ⟨_, rfl, d2, flat_enc _⟩ True.intro) rfl fun v3 H3 kh3 hh3 d3 => ?_)
    exact k v3 (.mk (.fn []) [sh]) H3 (kh02.trans kh3) hh3 d3 ((gk_fn all_nil g2).mono (by omega) (by omega))
end
end K04

namespace K04
open PySem L2 Cm
def dd (d : Nat) : Nat := 4 + 11 * d
def fz : Nat → Nat
  | 0 => 1
  | d + 1 => 3 * fz d + 90
def spForm (K : PySem.W.Frag) (m : Nat) : Sp := fun vs H Q _ => ∃ (h c r nm : Addr) (known : List Str) (deep : Nat), vs = [.ref h, .int (deep : Nat), .ref nm, .ref r] ∧ Jr H h c r ∧ SqT K H nm (known.map V.str) ∧ known.length + deep ≤ 9 ∧ (∀ x ∈ known, gw x) ∧ deep < m ∧
  ∀ (v : V) (t : Tr) (H' : Hp), Kr h r H H' → Jr H' h c r → Dp K H' v t.enc → Gk (dd deep) (fz deep) t → Q v H'
/-- forms that hold a form -/
def spCtl (K : PySem.W.Frag) (m : Nat) : Sp := fun vs H Q _ => ∃ (h c r nm : Addr) (known : List Str) (deep : Nat), vs = [.ref h, .int ((deep + 1 : Nat) : Int), .ref nm, .ref r] ∧ Jr H h c r ∧ SqT K H nm (known.map V.str) ∧ known.length + deep + 1 ≤ 9 ∧ (∀ x ∈ known, gw x) ∧ deep < m ∧
  ∀ (v : V) (t : Tr) (H' : Hp), Kr h r H H' → Jr H' h c r → Dp K H' v t.enc → Gk (11 + dd deep) (fz (deep + 1)) t → Q v H'
theorem dec1 (d : Nat) : ((d + 1 : Nat) : Int) - 1 = ((d : Nat) : Int) := by omega
theorem rx_form {K : PySem.W.Frag} {m deep : Nat} {h c r nm : Addr} {known : List Str} {σ : L2.St} {H : Hp} {Q : VK} (h0 : σ[0]? = some (some (.ref h))) (h1 : σ[1]? = some (some (.int ((deep + 1 : Nat) : Int)))) (h2 : σ[2]? = some (some (.ref nm))) (h3 : σ[3]? = some (some (.ref r)))
    (hh : Jr H h c r) (hn : SqT K H nm (known.map V.str)) (hl : known.length + deep ≤ 9) (hk : ∀ x ∈ known, gw x) (hm : deep < m)
    (k : ∀ (v : V) (t : Tr) (H' : Hp), Kr h r H H' → Jr H' h c r → Dp K H' v t.enc → Gk (dd deep) (fz deep) t → Q v H') : tCall (spForm K m) [] E0 (tCons (tVar 0) (tCons (tOp (rI0 fun i j => .int (i - j)) (tVar 1) (tC (.int 1))) (tCons (tVar 2) (tCons (tVar 3) tNil)))) σ H Q :=
  ⟨_, h0, _, h1, _, _, rfl, rfl, _, h2, _, h3, h, c, r, nm, known, deep, by
    show [V.ref h, V.int (((deep + 1 : Nat) : Int) - 1), V.ref nm, V.ref r] = _
    rw [dec1], hh, hn, hl, hk, hm, k⟩
theorem TreeK.mk {d n : Nat} {t : Tr} (g : Gk d n t) : TreeK d n t.enc := ⟨t, rfl, g⟩
section
variable {P : Program} {w : World} {K : PySem.W.Frag} {mg : Str → Option Value} {base : Heap}
abbrev s_l_lay : Stmt := top 24
abbrev N_l_lay : List Str := ["_law_hand_here", "_law_deep", "_law_known", "_law_room", "_law_value", "_law_once", "_law_twice", "_law_count", "_law_lay_here"]
theorem sc_l_lay : FnScope N_l_lay ["_law_hand_here", "_law_deep", "_law_known", "_law_room"] (defScope s_l_lay) := ⟨rfl, rfl, rfl, by decide +kernel, rfl, by decide +kernel, by decide +kernel⟩
theorem ok_l_lay {m lv : Nat} (hlv : 5 ≤ lv) (T : Txt mg) (c_l_draw : Cl P w K mg base 2 "_law_draw" spDraw) (c_l_form : Cl P w K mg base lv "_law_form" (spForm K m)) (D : At K mg "_law_lay" s_l_lay ["_law_hand_here", "_law_deep", "_law_known", "_law_room"]) : Cl P w K mg base (lv + 1) "_law_lay" (spCtl K m) := by
  refine cl_of (k := lv) D sc_l_lay (fun vs H Q E h => ?_) fun f cdv A outer s H vs Q E hr h => ?_
  · obtain ⟨h, c, r, nm, known, deep, rfl, _⟩ := h
    rfl
  · obtain ⟨h, c, r, nm, known, deep, rfl, hh, hn, hl, hk, hm, k⟩ := h
    have hu := hu_of hr
    have hl9 : known.length ≤ 9 := by omega
    have fs : fz (deep + 1) = 3 * fz deep + 90 := rfl
    have d4' : 4 ≤ dd deep := Nat.le_add_right _ _
    refine ⟨_, (pss_cons (ps_set (i := 4) sc_l_lay.nd rfl (Or.inl rfl) (pe_c c_l_form hr (by omega) (by rfl) (pa_cons (pv 0) (pa_cons (pe_op op_sub (pv 1) pe_int) (pa_cons (pv 2) (pa_cons (pv 3) pa_nil))))))
      (pss_cons (ps_set (i := 5) sc_l_lay.nd rfl (Or.inl rfl) (pgr_tup (K := K) (pgr_cons pgr_str (pgr_cons (pgr_tup (K := K) (pgr_cons pgr_str (pgr_cons pgr_str pgr_nil))) (pgr_cons (pgr_tup (K := K) (pgr_cons (pgr_slot (pv 4)) pgr_nil)) pgr_nil)))))
      (pss_mid (ps_set (i := 6) sc_l_lay.nd rfl (Or.inl rfl) (pe_ifExp (pt_cmpR op_eq (pe_c c_l_draw hr (by omega) (by rfl) (pa_cons (pv 0) (pa_cons pe_int pa_nil))) pe_int (nomark _)) (pgr_tup (K := K) (pgr_cons pgr_str (pgr_cons (pgr_tup (K := K) (pgr_cons pgr_str (pgr_cons pgr_str pgr_nil))) (pgr_cons (pgr_tup (K := K) (pgr_cons (pgr_slot (pv 5)) pgr_nil)) pgr_nil)))) (pv 5)))
      (pss_cons (ps_set (i := 7) sc_l_lay.nd rfl (Or.inl rfl) (pgr_tup (K := K) (pgr_cons pgr_str (pgr_cons pgr_str (pgr_cons (pgr_tup (K := K) (pgr_cons pgr_str (pgr_cons pgr_str (pgr_cons (pgr_tup (K := K) (pgr_cons (pgr_tup (K := K) (pgr_cons pgr_str (pgr_cons pgr_str pgr_nil))) (pgr_cons (pgr_tup (K := K) (pgr_cons pgr_str (pgr_cons pgr_int pgr_nil))) pgr_nil))) pgr_nil)))) pgr_nil)))))
      (pss_cons (ps_set (i := 8) sc_l_lay.nd rfl (Or.inl rfl) (pgr_tup (K := K) (pgr_cons pgr_str (pgr_cons (pgr_tup (K := K) (pgr_cons pgr_str (pgr_cons pgr_str (pgr_cons (pgr_tup (K := K) (pgr_cons (pgr_tup (K := K) (pgr_cons pgr_str (pgr_cons pgr_str pgr_nil))) pgr_nil)) pgr_nil)))) (pgr_cons (pgr_tup (K := K) (pgr_cons pgr_str (pgr_cons (pgr_tup (K := K) (pgr_cons (pgr_slot (pv 7)) (pgr_cons (pgr_slot (pv 6)) pgr_nil))) pgr_nil))) (pgr_cons (pgr_tup (K := K) (pgr_cons pgr_str (pgr_cons pgr_int pgr_nil))) pgr_nil))))))
      (pss_one (ps_ret (pgr_tup (K := K) (pgr_cons pgr_str (pgr_cons (pgr_tup (K := K) (pgr_cons pgr_str (pgr_cons pgr_str (pgr_cons (pgr_tup (K := K) (pgr_cons (pgr_tup (K := K) (pgr_cons pgr_str (pgr_cons pgr_str pgr_nil))) (pgr_cons (pgr_tup (K := K) (pgr_cons pgr_str (pgr_cons (pgr_ex 0 (pe_op op_add pe_int (pe_c c_l_draw hr (by omega) (by rfl) (pa_cons (pv 0) (pa_cons pe_int pa_nil))))) pgr_nil))) pgr_nil))) pgr_nil)))) (pgr_cons (pgr_slot (pv 8)) (pgr_cons (pgr_tup (K := K) (pgr_cons pgr_str (pgr_cons pgr_int pgr_nil))) pgr_nil)))))))))))), ?_⟩
    have wn : gw "n" := by decide +kernel
    have wj : gw "j" := by decide +kernel
    refine rx_form rfl rfl rfl rfl hh hn (by omega) hk hm fun v1 inner H1 kh1 hh1 d1 g1 => ?_
    refine tr_pure (fun _ => inner.enc) hh1 (And.intro ⟨_, rfl, d1, flat_enc _⟩ True.intro) rfl fun v2 H2 kh2 hh2 d2 => ?_
    have d2' : Dp K H2 v2 (Tr.mk .call [.mk (.name "j") [], inner]).enc := d2
    have g2 : Gk (2 + dd deep) (fz deep + 2) (.mk .call [.mk (.name "j") [], inner]) := (gk_call (d := dd deep) ((gk_name wj).cons (g1.cons Gks.nil))).mono (by omega) (by omega)
    generalize Tr.mk .call [.mk (.name "j") [], inner] = once at *
    refine ⟨fun σ' H' => ∃ (v6 : V) (twice : Tr), σ' = [some (.ref h), some (.int ((deep + 1 : Nat) : Int)), some (.ref nm), some (.ref r), some v1, some v2, some v6, none, none] ∧ Kr h r H2 H' ∧ Jr H' h c r ∧ Dp K H' v6 twice.enc ∧ Gk (4 + dd deep) (fz deep + 4) twice, ?_, ?_⟩
    · refine rx_draw rfl hh2 (by decide) (by decide) fun n H3 n0 n1 kh3 hh3 => ⟨rfl, _, rfl, ?_⟩
      refine ite2 (fun _ => ?_) (fun _ => ?_)
      · refine tr_pure (fun _ => once.enc) hh3 (And.intro ⟨_, rfl, mvR kh3 d2', flat_enc _⟩ True.intro) rfl fun v6 H6 kh6 hh6 d6 => ⟨v6, .mk .call [.mk (.name "j") [], once], rfl, kh3.trans kh6, hh6, d6, (gk_call (d := 2 + dd deep) ((gk_name wj).cons (g2.cons Gks.nil))).mono (by omega) (by omega)⟩
      · exact ⟨_, rfl, v2, once, rfl, kh3, hh3, mvR kh3 d2', g2.mono (by omega) (by omega)⟩
    · rintro σ' H3 ⟨v6, twice, rfl, kh3, hh3, d6, g6⟩
      refine tr_pure (fun _ => .int 0) hh3 True.intro rfl fun v7 H4 kh4 hh4 d7 => ?_
      have d7' : Dp K H4 v7 (Tr.mk (.one "set" "n") [.mk (.op "+") [.mk (.name "n") [], .mk (.num 1) []]]).enc := d7
      have g7 : Gk 4 4 (.mk (.one "set" "n") [.mk (.op "+") [.mk (.name "n") [], .mk (.num 1) []]]) := (gk_one (by decide) wn (gk_op (d := 0) (by decide +kernel) ((gk_name wn).cons ((gk_num (by decide)).cons Gks.nil)))).mono (by omega) (by omega)
      generalize Tr.mk (.one "set" "n") [.mk (.op "+") [.mk (.name "n") [], .mk (.num 1) []]] = cnt at *
      refine tr_pure (fun | 7 => cnt.enc | _ => twice.enc) hh4 (And.intro ⟨_, rfl, d7', flat_enc _⟩ (And.intro ⟨_, rfl, mvR kh4 d6, flat_enc _⟩ True.intro)) rfl fun v8 H5 kh5 hh5 d8 => ?_
      have d8' : Dp K H5 v8 (Tr.mk (.plain "if") [.mk (.op "rest?") [.mk (.name "j") []], .mk .doo [cnt, twice], .mk (.num 7) []]).enc := d8
      have g8 : Gk (7 + dd deep) (fz deep + 15) (.mk (.plain "if") [.mk (.op "rest?") [.mk (.name "j") []], .mk .doo [cnt, twice], .mk (.num 7) []]) :=
        (gk_if (d := 6 + dd deep) ((gk_op (d := 0) (by decide +kernel) ((gk_name wj).cons Gks.nil)).cons ((gk_do (d := 4 + dd deep) (g7.cons (g6.cons Gks.nil))).cons ((gk_num (by decide)).cons Gks.nil)))).mono (by omega) (by omega)
      generalize Tr.mk (.plain "if") [.mk (.op "rest?") [.mk (.name "j") []], .mk .doo [cnt, twice], .mk (.num 7) []] = lay at *
      refine ⟨h, c, r, fun _ => lay.enc, fun _ => NumK, hh5, And.intro ⟨_, rfl, d8', flat_enc _⟩ True.intro, And.intro (fun H6 kh6 hh6 => rx_one rfl hh6 (by decide) (by decide) fun m H7 hm kh7 hh7 => ⟨kh7, hh7, _, ⟨_, rfl, hm⟩, rfl, .int _⟩) True.intro, fun v9 H6 τ kh6 hh6 als ft dp => ?_⟩
      obtain ⟨⟨i, e1, hi⟩, _⟩ := als
      have dp' : Dp K H6 v9 (.tuple [.str "if", .tuple [.str "op", .str "<", .tuple [(Tr.mk (.name "n") []).enc, .tuple [.str "number", τ 0]]], lay.enc, (Tr.mk (.num 8) []).enc]) := dp
      rw [show τ 0 = .int i from e1] at dp'
      exact k v9 (.mk (.plain "if") [.mk (.op "<") [.mk (.name "n") [], .mk (.num i) []], lay, .mk (.num 8) []]) H6 ((((kh1.trans kh2).trans kh3).trans kh4).trans (kh5.trans kh6)) hh6 dp'
        ((gk_if (d := 7 + dd deep) ((gk_op (d := 0) (by decide +kernel) ((gk_name wn).cons ((gk_num hi).cons Gks.nil))).cons (g8.cons ((gk_num (by decide)).cons Gks.nil)))).mono (by omega) (by omega))
abbrev s_l_form_of_control : Stmt := top 26
abbrev N_l_form_of_control : List Str := ["_law_hand_here", "_law_deep", "_law_known", "_law_room", "_law_pick_here", "_law_name", "_law_inner", "_law_use", "_law_lay_here"]
theorem sc_l_form_of_control : FnScope N_l_form_of_control ["_law_hand_here", "_law_deep", "_law_known", "_law_room"] (defScope s_l_form_of_control) := ⟨rfl, rfl, rfl, by decide +kernel, rfl, by decide +kernel, by decide +kernel⟩
theorem ok_l_control {m lv : Nat} (hlv : 5 ≤ lv) (T : Txt mg) (c_l_draw : Cl P w K mg base 2 "_law_draw" spDraw) (c_l_leaf : Cl P w K mg base 3 "_law_leaf" (spK K 0 1)) (c_l_new_name : Cl P w K mg base 1 "_law_new_name" (spNewName K)) (c_l_deed : Cl P w K mg base 5 "_law_deed" (spK K 10 30)) (c_l_form : Cl P w K mg base lv "_law_form" (spForm K m)) (D : At K mg "_law_form_of_control" s_l_form_of_control ["_law_hand_here", "_law_deep", "_law_known", "_law_room"]) : Cl P w K mg base (lv + 1) "_law_form_of_control" (spCtl K m) := by
  refine cl_of (k := lv) D sc_l_form_of_control (fun vs H Q E h => ?_) fun f cdv A outer s H vs Q E hr h => ?_
  · obtain ⟨h, c, r, nm, known, deep, rfl, _⟩ := h
    rfl
  · obtain ⟨h, c, r, nm, known, deep, rfl, hh, hn, hl, hk, hm, k⟩ := h
    have hu := hu_of hr
    have hl9 : known.length ≤ 9 := by omega
    have fs : fz (deep + 1) = 3 * fz deep + 90 := rfl
    have d4' : 4 ≤ dd deep := Nat.le_add_right _ _
    refine ⟨_, (pss_cons (ps_set (i := 4) sc_l_form_of_control.nd rfl (Or.inl rfl) (pe_c c_l_draw hr (by omega) (by rfl) (pa_cons (pv 0) (pa_cons pe_int pa_nil))))
      (pss_cons (ps_set (i := 5) sc_l_form_of_control.nd rfl (Or.inl rfl) (pe_c c_l_new_name hr (by omega) (by rfl) (pa_cons (pv 2) pa_nil)))
      (pss_cons (ps_set (i := 6) sc_l_form_of_control.nd rfl (Or.inl rfl) (pe_c c_l_form hr (by omega) (by rfl) (pa_cons (pv 0) (pa_cons (pe_op op_sub (pv 1) pe_int) (pa_cons (pv 2) (pa_cons (pv 3) pa_nil))))))
      (pss_cons (ps_if (pt_cmpR op_eq (pv 4) pe_int (nomark _))
        (pss_one (ps_ret (pgr_tup (K := K) (pgr_cons pgr_str (pgr_cons (pgr_slot (pv 6)) pgr_nil)))))
        pss_nil)
      (pss_cons (ps_if (pt_cmpR op_lt (pv 4) pe_int (nomark _))
        (pss_one (ps_ret (pgr_tup (K := K) (pgr_cons pgr_str (pgr_cons (pgr_ex 0 (pe_c c_l_deed hr (by omega) (by rfl) (pa_cons (pv 0) (pa_cons (pv 2) pa_nil)))) (pgr_cons (pgr_slot (pv 6)) (pgr_cons (pgr_ex 1 (pe_c c_l_deed hr (by omega) (by rfl) (pa_cons (pv 0) (pa_cons (pv 2) pa_nil)))) pgr_nil)))))))
        pss_nil)
      (pss_cons (ps_if (pt_cmpR op_lt (pv 4) pe_int (nomark _))
        (pss_one (ps_ret (pgr_tup (K := K) (pgr_cons pgr_str (pgr_cons pgr_str (pgr_cons (pgr_tup (K := K) (pgr_cons pgr_str (pgr_cons (pgr_tup (K := K) (pgr_cons (pgr_tup (K := K) (pgr_cons pgr_str (pgr_cons pgr_str (pgr_cons (pgr_tup (K := K) (pgr_cons pgr_str (pgr_cons pgr_str pgr_nil))) pgr_nil)))) (pgr_cons (pgr_slot (pv 6)) pgr_nil))) pgr_nil))) pgr_nil))))))
        pss_nil)
      (pss_cons (ps_if (pt_cmpR op_eq (pv 4) pe_int (nomark _))
        (pss_mid (ps_set (i := 7) sc_l_form_of_control.nd rfl (Or.inl rfl) (pe_ifExp (pt_cmpR op_eq (pe_c c_l_draw hr (by omega) (by rfl) (pa_cons (pv 0) (pa_cons pe_int pa_nil))) pe_int (nomark _)) (pgr_tup (K := K) (pgr_cons pgr_str (pgr_cons (pgr_tup (K := K) (pgr_cons pgr_str (pgr_cons pgr_str pgr_nil))) (pgr_cons (pgr_tup (K := K) (pgr_cons (pgr_slot (pv 6)) pgr_nil)) pgr_nil)))) (pgr_tup (K := K) (pgr_cons pgr_str (pgr_cons (pgr_tup (K := K) (pgr_cons (pgr_tup (K := K) (pgr_cons pgr_str (pgr_cons pgr_str (pgr_cons (pgr_tup (K := K) (pgr_cons pgr_str (pgr_cons pgr_str pgr_nil))) pgr_nil)))) (pgr_cons (pgr_slot (pv 6)) pgr_nil))) pgr_nil)))))
        (pss_one (ps_ret (pgr_tup (K := K) (pgr_cons pgr_str (pgr_cons pgr_str (pgr_cons (pgr_slot (pv 7)) pgr_nil)))))))
        pss_nil)
      (pss_cons (ps_if (pt_cmpR op_eq (pv 4) pe_int (nomark _))
        (pss_one (ps_ret (pgr_tup (K := K) (pgr_cons pgr_str (pgr_cons (pgr_tup (K := K) (pgr_cons pgr_str (pgr_cons pgr_str (pgr_cons (pgr_tup (K := K) (pgr_cons (pgr_slot (pv 6)) (pgr_cons (pgr_tup (K := K) (pgr_cons pgr_str (pgr_cons pgr_str (pgr_cons (pgr_tup (K := K) (pgr_cons pgr_str (pgr_cons (pgr_tup (K := K) (pgr_cons (pgr_tup (K := K) (pgr_cons pgr_str (pgr_cons pgr_str (pgr_cons (pgr_tup (K := K) (pgr_cons pgr_str (pgr_cons pgr_str pgr_nil))) pgr_nil)))) (pgr_cons (pgr_ex 0 (pe_c c_l_leaf hr (by omega) (by rfl) (pa_cons (pv 0) (pa_cons (pv 2) pa_nil)))) pgr_nil))) pgr_nil))) pgr_nil)))) pgr_nil))) pgr_nil)))) pgr_nil)))))
        pss_nil)
      (pss_cons (ps_if (pt_cmpR op_eq (pv 4) pe_int (nomark _))
        (pss_cons (ps_set (i := 8) sc_l_form_of_control.nd rfl (Or.inl rfl) (pgr_tup (K := K) (pgr_cons pgr_str (pgr_cons (pgr_tup (K := K) (pgr_cons pgr_str (pgr_cons pgr_str pgr_nil))) (pgr_cons (pgr_tup (K := K) (pgr_cons (pgr_slot (pv 6)) pgr_nil)) pgr_nil)))))
        (pss_one (ps_ret (pgr_tup (K := K) (pgr_cons pgr_str (pgr_cons pgr_str (pgr_cons (pgr_tup (K := K) (pgr_cons pgr_str (pgr_cons pgr_str (pgr_cons (pgr_tup (K := K) (pgr_cons (pgr_slot (pv 8)) (pgr_cons (pgr_tup (K := K) (pgr_cons pgr_str (pgr_cons (pgr_tup (K := K) (pgr_cons pgr_str (pgr_cons pgr_str pgr_nil))) (pgr_cons (pgr_tup (K := K) (pgr_cons (pgr_ex 0 (pe_c c_l_leaf hr (by omega) (by rfl) (pa_cons (pv 0) (pa_cons (pv 2) pa_nil)))) pgr_nil)) pgr_nil)))) pgr_nil))) pgr_nil)))) pgr_nil)))))))
        pss_nil)
      (pss_one (ps_ret (pgr_tup (K := K) (pgr_cons pgr_str (pgr_cons pgr_str (pgr_cons (pgr_tup (K := K) (pgr_cons pgr_str (pgr_cons (pgr_tup (K := K) (pgr_cons pgr_str (pgr_cons pgr_str pgr_nil))) (pgr_cons (pgr_tup (K := K) (pgr_cons (pgr_tup (K := K) (pgr_cons pgr_str (pgr_cons (pgr_tup (K := K) (pgr_cons (pgr_tup (K := K) (pgr_cons (pgr_slot (pv 5)) (pgr_cons (pgr_slot (pv 6)) pgr_nil))) pgr_nil)) (pgr_cons (pgr_tup (K := K) (pgr_cons pgr_str (pgr_cons (pgr_slot (pv 5)) pgr_nil))) pgr_nil)))) pgr_nil)) pgr_nil)))) pgr_nil))))))))))))))), ?_⟩
    have wk' : gw "k" := by decide +kernel
    have ww : gw "w" := by decide +kernel
    have wj : gw "j" := by decide +kernel
    refine rx_draw rfl hh (by decide) (by decide) fun n H1 n0 n1 kh1 hh1 => ?_
    have hn1 := kh1.tup hn
    refine ⟨_, rfl, nm, known, rfl, hn1, hl9, fun x wx => ?_⟩
    refine rx_form rfl rfl rfl rfl hh1 hn1 (by omega) hk hm fun v1 inner H2 kh2 hh2 d1 g1 => ?_
    have kh02 := kh1.trans kh2
    have hn2 := kh2.tup hn1
    have leaf : ∀ {σ : L2.St} {H' : Hp}, σ[0]? = some (some (.ref h)) → σ[2]? = some (some (.ref nm)) → Kr h r H2 H' → Jr H' h c r → tCall (spK K 0 1) [] E0 (tCons (tVar 0) (tCons (tVar 2) tNil)) σ H' fun v H4 => Kr h r H' H4 ∧ Jr H4 h c r ∧ ∃ d, TreeK 0 1 d ∧ flatD d = true ∧ Dp K H4 v d :=
      fun e0 e2 kh' hh' => rx_k e0 e2 hh' (kh'.tup hn2) hl9 hk fun v' t H' kh' hh' dd g => ⟨kh', hh', t.enc, ⟨t, rfl, g⟩, flat_enc t, dd⟩
    refine ⟨_, rfl, rfl, _, rfl, ?_⟩
    by_cases q : n = 0
    · refine iteIeq q (tr_pure (fun _ => inner.enc) hh2 (And.intro ⟨_, rfl, d1, flat_enc _⟩ True.intro) rfl fun v3 H3 kh3 hh3 d3 => ?_)
      exact k v3 (.mk (.plain "mark") [inner]) H3 (kh02.trans kh3) hh3 d3 ((gk_mark g1).mono (by omega) (by omega))
    refine iteIne q ⟨_, rfl, _, _, rfl, rfl, _, rfl, ?_⟩
    refine ite2 (fun _ => ?_) (fun _ => ?_)
    · refine ⟨h, c, r, fun _ => inner.enc, fun _ => TreeK 10 30, hh2, And.intro ⟨_, rfl, d1, flat_enc _⟩ True.intro, And.intro (fun H3 kh3 hh3 => rx_k rfl rfl hh3 (kh3.tup hn2) hl9 hk fun v' t H' kh' hh' dd g => ⟨kh', hh', t.enc, ⟨t, rfl, g⟩, flat_enc t, dd⟩) (And.intro (fun H3 kh3 hh3 => rx_k rfl rfl hh3 (kh3.tup hn2) hl9 hk fun v' t H' kh' hh' dd g => ⟨kh', hh', t.enc, ⟨t, rfl, g⟩, flat_enc t, dd⟩) True.intro), fun v3 H3 τ kh3 hh3 als ft dp => ?_⟩
      obtain ⟨⟨a1, e1, ga⟩, ⟨a2, e2, gb⟩, _⟩ := als
      have dp' : Dp K H3 v3 (.tuple [.str "wind", τ 0, inner.enc, τ 1]) := dp
      rw [show τ 0 = a1.enc from e1, show τ 1 = a2.enc from e2] at dp'
      exact k v3 (.mk (.plain "wind") [a1, inner, a2]) H3 (kh02.trans kh3) hh3 dp' ((gk_wind (d := 10 + dd deep) (ga.cons (g1.cons (gb.cons Gks.nil)))).mono (by omega) (by omega))
    refine ⟨_, rfl, _, _, rfl, rfl, _, rfl, ?_⟩
    have gk0 : Gk (4 + dd deep) (fz deep + 3) (.mk .doo [.mk (.one "set" "k") [.mk (.name "w") []], inner]) := by
      have g0 : Gk 2 2 (.mk (.one "set" "k") [.mk (.name "w") []]) := gk_one (by decide) wk' (gk_name ww)
      exact (gk_do (d := 2 + dd deep) (g0.cons (g1.cons Gks.nil))).mono (by omega) (by omega)
    have gc0 : Gk (2 + dd deep) (fz deep + 2) (.mk .call [.mk (.name "w") [], inner]) := (gk_call (d := dd deep) ((gk_name ww).cons (g1.cons Gks.nil))).mono (by omega) (by omega)
    refine ite2 (fun _ => ?_) (fun _ => ?_)
    · refine tr_pure (fun _ => inner.enc) hh2 (And.intro ⟨_, rfl, d1, flat_enc _⟩ True.intro) rfl fun v3 H3 kh3 hh3 d3 => ?_
      exact k v3 (.mk (.one "keep" "w") [.mk .doo [.mk (.one "set" "k") [.mk (.name "w") []], inner]]) H3 (kh02.trans kh3) hh3 d3 ((gk_one (by decide) ww gk0).mono (by omega) (by omega))
    refine ⟨_, rfl, rfl, _, rfl, ?_⟩
    by_cases q : n = 5
    · refine iteIeq q ⟨fun σ' H' => ∃ (v7 : V) (use : Tr), σ' = [some (.ref h), some (.int ((deep + 1 : Nat) : Int)), some (.ref nm), some (.ref r), some (.int n), some (.str x), some v1, some v7, none] ∧ Kr h r H2 H' ∧ Jr H' h c r ∧ Dp K H' v7 use.enc ∧ Gk (4 + dd deep) (fz deep + 4) use, ?_, ?_⟩
      · refine rx_draw rfl hh2 (by decide) (by decide) fun n' H3 n0 n1 kh3 hh3 => ⟨rfl, _, rfl, ?_⟩
        refine ite2 (fun _ => ?_) (fun _ => ?_)
        · exact tr_pure (fun _ => inner.enc) hh3 (And.intro ⟨_, rfl, mvR kh3 d1, flat_enc _⟩ True.intro) rfl fun v6 H6 kh6 hh6 d6 => ⟨v6, .mk .call [.mk (.name "w") [], inner], rfl, kh3.trans kh6, hh6, d6, gc0.mono (by omega) (by omega)⟩
        · exact tr_pure (fun _ => inner.enc) hh3 (And.intro ⟨_, rfl, mvR kh3 d1, flat_enc _⟩ True.intro) rfl fun v6 H6 kh6 hh6 d6 => ⟨v6, .mk .doo [.mk (.one "set" "k") [.mk (.name "w") []], inner], rfl, kh3.trans kh6, hh6, d6, gk0.mono (by omega) (by omega)⟩
      · rintro σ' H3 ⟨v7, use, rfl, kh3, hh3, d7, g7⟩
        refine tr_pure (fun _ => use.enc) hh3 (And.intro ⟨_, rfl, d7, flat_enc _⟩ True.intro) rfl fun v8 H4 kh4 hh4 d8 => ?_
        exact k v8 (.mk (.one "once" "w") [use]) H4 ((kh02.trans kh3).trans kh4) hh4 d8 ((gk_one (by decide) ww g7).mono (by omega) (by omega))
    refine iteIne q ⟨_, rfl, rfl, _, rfl, ?_⟩
    by_cases q : n = 6
    · refine iteIeq q ⟨h, c, r, fun _ => inner.enc, fun _ => TreeK 0 1, hh2, And.intro ⟨_, rfl, d1, flat_enc _⟩ True.intro, And.intro (fun H3 kh3 hh3 => leaf rfl rfl kh3 hh3) True.intro, fun v3 H3 τ kh3 hh3 als ft dp => ?_⟩
      obtain ⟨⟨lf, e1, gl⟩, _⟩ := als
      have dp' : Dp K H3 v3 (.tuple [.str "mark", .tuple [.str "op", .str "+", .tuple [inner.enc, .tuple [.str "take", .str "w", .tuple [.str "do", .tuple [(Tr.mk (.one "set" "j") [.mk (.name "w") []]).enc, τ 0]]]]]]) := dp
      rw [show τ 0 = lf.enc from e1] at dp'
      exact k v3 (.mk (.plain "mark") [.mk (.op "+") [inner, .mk (.one "take" "w") [.mk .doo [.mk (.one "set" "j") [.mk (.name "w") []], lf]]]]) H3 (kh02.trans kh3) hh3 dp'
        ((gk_mark (gk_op (d := 6 + dd deep) (by decide +kernel) (g1.cons ((gk_one (by decide) ww (gk_do (d := 2) ((gk_one (by decide) wj (gk_name ww)).cons (gl.cons Gks.nil)))).cons Gks.nil)))).mono (by omega) (by omega))
    refine iteIne q ⟨_, rfl, rfl, _, rfl, ?_⟩
    by_cases q : n = 7
    · refine iteIeq q (tr_pure (fun _ => inner.enc) hh2 (And.intro ⟨_, rfl, d1, flat_enc _⟩ True.intro) rfl fun v8 H3 kh3 hh3 d8 => ?_)
      have d8' : Dp K H3 v8 (Tr.mk .call [.mk (.name "w") [], inner]).enc := d8
      generalize Tr.mk .call [.mk (.name "w") [], inner] = lay at *
      refine ⟨h, c, r, fun _ => lay.enc, fun _ => TreeK 0 1, hh3, And.intro ⟨_, rfl, d8', flat_enc _⟩ True.intro, And.intro (fun H4 kh4 hh4 => leaf rfl rfl (kh3.trans kh4) hh4) True.intro, fun v9 H4 τ kh4 hh4 als ft dp => ?_⟩
      obtain ⟨⟨lf, e1, gl⟩, _⟩ := als
      have dp' : Dp K H4 v9 (.tuple [.str "take", .str "w", .tuple [.str "op", .str "+", .tuple [lay.enc, .tuple [.str "call", (Tr.mk (.name "w") []).enc, .tuple [τ 0]]]]]) := dp
      rw [show τ 0 = lf.enc from e1] at dp'
      exact k v9 (.mk (.one "take" "w") [.mk (.op "+") [lay, .mk .call [.mk (.name "w") [], lf]]]) H4 ((kh02.trans kh3).trans kh4) hh4 dp'
        ((gk_one (by decide) ww (gk_op (d := 2 + dd deep) (by decide +kernel) (gc0.cons ((gk_call (d := 0) ((gk_name ww).cons (gl.cons Gks.nil))).cons Gks.nil)))).mono (by omega) (by omega))
    refine iteIne q (tr_pure (fun | 6 => inner.enc | _ => .str x) hh2 (And.intro ⟨_, rfl, .str x, rfl⟩ (And.intro ⟨_, rfl, d1, flat_enc _⟩ (And.intro ⟨_, rfl, .str x, rfl⟩ True.intro))) rfl fun v3 H3 kh3 hh3 d3 => ?_)
    exact k v3 (.mk (.one "keep" "w") [.mk .call [.mk (.name "w") [], .mk (.bind "let" [x]) [inner, .mk (.name x) []]]]) H3 (kh02.trans kh3) hh3 d3
      ((gk_one (by decide) ww (gk_call (d := 3 + dd deep) ((gk_name ww).cons ((gk_let (d := dd deep) (all_cons wx all_nil) (g1.cons ((gk_name wx).cons Gks.nil))).cons Gks.nil)))).mono (by omega) (by omega))
abbrev s_l_loop : Stmt := top 27
abbrev N_l_loop : List Str := ["_law_hand_here", "_law_deep", "_law_known", "_law_room", "_law_name", "_law_most", "_law_inner", "_law_more", "_law_body", "_law_fun"]
theorem sc_l_loop : FnScope N_l_loop ["_law_hand_here", "_law_deep", "_law_known", "_law_room"] (defScope s_l_loop) := ⟨rfl, rfl, rfl, by decide +kernel, rfl, by decide +kernel, by decide +kernel⟩
theorem ok_l_loop {m lv : Nat} (hlv : 5 ≤ lv) (T : Txt mg) (c_l_draw : Cl P w K mg base 2 "_law_draw" spDraw) (c_l_new_name : Cl P w K mg base 1 "_law_new_name" (spNewName K)) (c_l_form : Cl P w K mg base lv "_law_form" (spForm K m)) (D : At K mg "_law_loop" s_l_loop ["_law_hand_here", "_law_deep", "_law_known", "_law_room"]) : Cl P w K mg base (lv + 1) "_law_loop" (spCtl K m) := by
  refine cl_of (k := lv) D sc_l_loop (fun vs H Q E h => ?_) fun f cdv A outer s H vs Q E hr h => ?_
  · obtain ⟨h, c, r, nm, known, deep, rfl, _⟩ := h
    rfl
  · obtain ⟨h, c, r, nm, known, deep, rfl, hh, hn, hl, hk, hm, k⟩ := h
    have hu := hu_of hr
    have hl9 : known.length ≤ 9 := by omega
    have fs : fz (deep + 1) = 3 * fz deep + 90 := rfl
    have d4' : 4 ≤ dd deep := Nat.le_add_right _ _
    refine ⟨_, (pss_cons (ps_set (i := 4) sc_l_loop.nd rfl (Or.inl rfl) (pe_c c_l_new_name hr (by omega) (by rfl) (pa_cons (pv 2) pa_nil)))
      (pss_cons (ps_set (i := 5) sc_l_loop.nd rfl (Or.inl rfl) (pgr_tup (K := K) (pgr_cons pgr_str (pgr_cons (pgr_ex 0 (pe_op op_add pe_int (pe_c c_l_draw hr (by omega) (by rfl) (pa_cons (pv 0) (pa_cons pe_int pa_nil))))) pgr_nil))))
      (pss_cons (ps_set (i := 6) sc_l_loop.nd rfl (Or.inl rfl) (pe_c c_l_form hr (by omega) (by rfl) (pa_cons (pv 0) (pa_cons (pe_op op_sub (pv 1) pe_int) (pa_cons (pe_op op_catA (pv 2) (pe_tup (pa_cons (pv 4) pa_nil))) (pa_cons (pv 3) pa_nil))))))
      (pss_cons (ps_set (i := 7) sc_l_loop.nd rfl (Or.inl rfl) (pgr_tup (K := K) (pgr_cons pgr_str (pgr_cons (pgr_tup (K := K) (pgr_cons pgr_str (pgr_cons pgr_str pgr_nil))) (pgr_cons (pgr_tup (K := K) (pgr_cons (pgr_tup (K := K) (pgr_cons pgr_str (pgr_cons pgr_str (pgr_cons (pgr_tup (K := K) (pgr_cons (pgr_tup (K := K) (pgr_cons pgr_str (pgr_cons (pgr_slot (pv 4)) pgr_nil))) (pgr_cons (pgr_tup (K := K) (pgr_cons pgr_str (pgr_cons pgr_int pgr_nil))) pgr_nil))) pgr_nil)))) pgr_nil)) pgr_nil)))))
      (pss_mid (ps_set (i := 8) sc_l_loop.nd rfl (Or.inl rfl) (pe_ifExp (pt_cmpR op_eq (pe_c c_l_draw hr (by omega) (by rfl) (pa_cons (pv 0) (pa_cons pe_int pa_nil))) pe_int (nomark _)) (pgr_tup (K := K) (pgr_cons pgr_str (pgr_cons (pgr_tup (K := K) (pgr_cons (pgr_slot (pv 6)) (pgr_cons (pgr_slot (pv 7)) pgr_nil))) pgr_nil))) (pgr_tup (K := K) (pgr_cons pgr_str (pgr_cons pgr_str (pgr_cons (pgr_tup (K := K) (pgr_cons (pgr_slot (pv 6)) (pgr_cons (pgr_slot (pv 7)) pgr_nil))) pgr_nil))))))
      (pss_cons (ps_set (i := 9) sc_l_loop.nd rfl (Or.inl rfl) (pgr_tup (K := K) (pgr_cons pgr_str (pgr_cons (pgr_tup (K := K) (pgr_cons (pgr_slot (pv 4)) pgr_nil)) (pgr_cons (pgr_tup (K := K) (pgr_cons pgr_str (pgr_cons (pgr_tup (K := K) (pgr_cons pgr_str (pgr_cons pgr_str (pgr_cons (pgr_tup (K := K) (pgr_cons (pgr_tup (K := K) (pgr_cons pgr_str (pgr_cons (pgr_slot (pv 4)) pgr_nil))) (pgr_cons (pgr_slot (pv 5)) pgr_nil))) pgr_nil)))) (pgr_cons (pgr_slot (pv 8)) (pgr_cons (pgr_tup (K := K) (pgr_cons pgr_str (pgr_cons (pgr_slot (pv 4)) pgr_nil))) pgr_nil))))) pgr_nil)))))
      (pss_one (ps_ret (pgr_tup (K := K) (pgr_cons pgr_str (pgr_cons (pgr_tup (K := K) (pgr_cons (pgr_tup (K := K) (pgr_cons pgr_str (pgr_cons (pgr_slot (pv 9)) pgr_nil))) pgr_nil)) (pgr_cons (pgr_tup (K := K) (pgr_cons pgr_str (pgr_cons (pgr_tup (K := K) (pgr_cons pgr_str (pgr_cons pgr_str pgr_nil))) (pgr_cons (pgr_tup (K := K) (pgr_cons (pgr_tup (K := K) (pgr_cons pgr_str (pgr_cons pgr_int pgr_nil))) pgr_nil)) pgr_nil)))) pgr_nil)))))))))))), ?_⟩
    have wf : gw "f" := by decide +kernel
    refine ⟨_, rfl, nm, known, rfl, hn, hl9, fun x wx => ?_⟩
    refine ⟨h, c, r, fun _ => .int 0, fun _ => NumK, hh, True.intro, And.intro (fun H3 kh3 hh3 => rx_one rfl hh3 (by decide) (by decide) fun m H4 hm kh4 hh4 => ⟨kh4, hh4, _, ⟨_, rfl, hm⟩, rfl, .int _⟩) True.intro, fun v5 H1 τ kh1 hh1 als ft dp => ?_⟩
    obtain ⟨⟨i, e1, hi⟩, _⟩ := als
    have dp' : Dp K H1 v5 (.tuple [.str "number", τ 0]) := dp
    rw [show τ 0 = .int i from e1] at dp'
    have d5 : Dp K H1 v5 (Tr.mk (.num i) []).enc := dp'
    have g5 : Gk 0 1 (.mk (.num i) []) := gk_num hi
    generalize Tr.mk (.num i) [] = most at *
    have hn1 := kh1.tup hn
    refine ⟨_, rfl, _, rfl, _, _, rfl, rfl, _, rfl, _, rfl, by show 1 ≤ sizeLine; decide, fun p hp => ?_⟩
    have sp := same_new (o := .tup [V.str x]) hp
    have hh2 := hh1.same sp
    have kh2 := hh1.kp sp
    refine cat_any (sqt_same sp hn1) (.inl (.inl upd_same)) (Nat.le_trans (show (known.map V.str).length + 1 ≤ 1000 by rw [List.length_map]; omega) (by decide)) fun nm2 H3 s3 hn3 => ?_
    have hh3 := hh2.same s3
    have kh3 := hh2.kp s3
    have e3 : known.map V.str ++ [V.str x] = (known ++ [x]).map V.str := by rw [List.map_append]; rfl
    rw [e3] at hn3
    have hk3 : ∀ y ∈ known ++ [x], gw y := fun y hy => by
      rcases List.mem_append.mp hy with hy | hy
      · exact hk y hy
      · rw [List.mem_singleton.mp hy]; exact wx
    refine ⟨_, rfl, h, c, r, nm2, known ++ [x], deep, by
      show [V.ref h, V.int (((deep + 1 : Nat) : Int) - 1), V.ref nm2, V.ref r] = _
      rw [dec1], hh3, hn3, by rw [List.length_append]; show known.length + 1 + deep ≤ 9; omega, hk3, hm, fun v6 inner H4 kh4 hh4 d6 g6 => ?_⟩
    have kh14 := (kh2.trans kh3).trans kh4
    have d5' := mvR kh14 d5
    refine tr_pure (fun _ => .str x) hh4 (And.intro ⟨_, rfl, .str x, rfl⟩ True.intro) rfl fun v7 H5 kh5 hh5 d7 => ?_
    have d7' : Dp K H5 v7 (Tr.mk .call [.mk (.name "f") [], .mk (.op "+") [.mk (.name x) [], .mk (.num 1) []]]).enc := d7
    have g7 : Gk 4 5 (.mk .call [.mk (.name "f") [], .mk (.op "+") [.mk (.name x) [], .mk (.num 1) []]]) := (gk_call (d := 2) ((gk_name wf).cons ((gk_op (d := 0) (by decide +kernel) ((gk_name wx).cons ((gk_num (by decide)).cons Gks.nil))).cons Gks.nil))).mono (by omega) (by omega)
    generalize Tr.mk .call [.mk (.name "f") [], .mk (.op "+") [.mk (.name x) [], .mk (.num 1) []]] = more at *
    have d6' := mvR kh5 d6
    refine ⟨fun σ' H' => ∃ (v8 : V) (body : Tr), σ' = [some (.ref h), some (.int ((deep + 1 : Nat) : Int)), some (.ref nm), some (.ref r), some (.str x), some v5, some v6, some v7, some v8, none] ∧ Kr h r H5 H' ∧ Jr H' h c r ∧ Dp K H' v8 body.enc ∧ Gk (2 + dd deep) (fz deep + 7) body, ?_, ?_⟩
    · refine rx_draw rfl hh5 (by decide) (by decide) fun n' H6 n0 n1 kh6 hh6 => ⟨rfl, _, rfl, ?_⟩
      refine ite2 (fun _ => ?_) (fun _ => ?_)
      · exact tr_pure (fun | 6 => inner.enc | _ => more.enc) hh6 (And.intro ⟨_, rfl, mvR kh6 d6', flat_enc _⟩ (And.intro ⟨_, rfl, mvR kh6 d7', flat_enc _⟩ True.intro)) rfl fun v8 H7 kh7 hh7 d8 => ⟨v8, .mk .doo [inner, more], rfl, kh6.trans kh7, hh7, d8, (gk_do (d := dd deep) (g6.cons (g7.cons Gks.nil))).mono (by omega) (by omega)⟩
      · exact tr_pure (fun | 6 => inner.enc | _ => more.enc) hh6 (And.intro ⟨_, rfl, mvR kh6 d6', flat_enc _⟩ (And.intro ⟨_, rfl, mvR kh6 d7', flat_enc _⟩ True.intro)) rfl fun v8 H7 kh7 hh7 d8 => ⟨v8, .mk (.op "+") [inner, more], rfl, kh6.trans kh7, hh7, d8, (gk_op (d := dd deep) (by decide +kernel) (g6.cons (g7.cons Gks.nil))).mono (by omega) (by omega)⟩
    · rintro σ' H6 ⟨v8, body, rfl, kh6, hh6, d8, g8⟩
      refine tr_pure (fun | 5 => most.enc | 8 => body.enc | _ => .str x) hh6 (And.intro ⟨_, rfl, .str x, rfl⟩ (And.intro ⟨_, rfl, .str x, rfl⟩ (And.intro ⟨_, rfl, mvR (kh5.trans kh6) d5', flat_enc _⟩ (And.intro ⟨_, rfl, d8, flat_enc _⟩ (And.intro ⟨_, rfl, .str x, rfl⟩ True.intro))))) rfl fun v9 H7 kh7 hh7 d9 => ?_
      have d9' : Dp K H7 v9 (Tr.mk (.fn [x]) [.mk (.plain "if") [.mk (.op "<") [.mk (.name x) [], most], body, .mk (.name x) []]]).enc := d9
      have g9 : Gk (5 + dd deep) (fz deep + 13) (.mk (.fn [x]) [.mk (.plain "if") [.mk (.op "<") [.mk (.name x) [], most], body, .mk (.name x) []]]) :=
        (gk_fn (all_cons wx all_nil) (gk_if (d := 2 + dd deep) ((gk_op (d := 0) (by decide +kernel) ((gk_name wx).cons (g5.cons Gks.nil))).cons (g8.cons ((gk_name wx).cons Gks.nil))))).mono (by omega) (by omega)
      generalize Tr.mk (.fn [x]) [.mk (.plain "if") [.mk (.op "<") [.mk (.name x) [], most], body, .mk (.name x) []]] = fun' at *
      refine tr_pure (fun _ => fun'.enc) hh7 (And.intro ⟨_, rfl, d9', flat_enc _⟩ True.intro) rfl fun v10 H8 kh8 hh8 d10 => ?_
      exact k v10 (.mk (.bind "rec" ["f"]) [fun', .mk .call [.mk (.name "f") [], .mk (.num 0) []]]) H8 ((((kh1.trans kh14).trans kh5).trans kh6).trans (kh7.trans kh8)) hh8 d10
        ((gk_bind (d := 5 + dd deep) (by decide) (all_cons wf all_nil) (g9.cons ((gk_call (d := 0) ((gk_name wf).cons ((gk_num (by decide)).cons Gks.nil))).cons Gks.nil))).mono (by omega) (by omega))
end
end K04

namespace K04
open PySem L2 Cm
theorem rx_form2 {K : PySem.W.Frag} {m deep : Nat} {h c r nm : Addr} {known : List Str} {H1 H : Hp} {σ : L2.St} (h0 : σ[0]? = some (some (.ref h))) (h1 : σ[1]? = some (some (.int ((deep + 1 : Nat) : Int)))) (h2 : σ[2]? = some (some (.ref nm))) (h3 : σ[3]? = some (some (.ref r)))
    (kh : Kr h r H1 H) (hh : Jr H h c r) (hn : SqT K H1 nm (known.map V.str)) (hl : known.length + deep ≤ 9) (hk : ∀ x ∈ known, gw x) (hm : deep < m) :
    tCall (spForm K m) [] E0 (tCons (tVar 0) (tCons (tOp (rI0 fun i j => .int (i - j)) (tVar 1) (tC (.int 1))) (tCons (tVar 2) (tCons (tVar 3) tNil)))) σ H fun v H2 => Kr h r H H2 ∧ Jr H2 h c r ∧ ∃ d, TreeK (dd deep) (fz deep) d ∧ flatD d = true ∧ Dp K H2 v d :=
  rx_form h0 h1 h2 h3 hh (kh.tup hn) hl hk hm fun v t H' kh' hh' dv g => ⟨kh', hh', t.enc, ⟨t, rfl, g⟩, flat_enc t, dv⟩
theorem rx_k2 {K : PySem.W.Frag} {d n i : Nat} {h c r nm : Addr} {known : List Str} {σ : L2.St} {H1 H : Hp} (h0 : σ[0]? = some (some (.ref h))) (hi : σ[i]? = some (some (.ref nm))) (kh : Kr h r H1 H) (hh : Jr H h c r) (hn : SqT K H1 nm (known.map V.str)) (hl : known.length ≤ 9) (hk : ∀ x ∈ known, gw x) :
    tCall (spK K d n) [] E0 (tCons (tVar 0) (tCons (tVar i) tNil)) σ H fun v H2 => Kr h r H H2 ∧ Jr H2 h c r ∧ ∃ e, TreeK d n e ∧ flatD e = true ∧ Dp K H2 v e :=
  rx_k h0 hi hh (kh.tup hn) hl hk fun v t H' kh' hh' dv g => ⟨kh', hh', t.enc, ⟨t, rfl, g⟩, flat_enc t, dv⟩
theorem rx_words2 {K : PySem.W.Frag} {h c r : Addr} {σ : L2.St} {H : Hp} (ws : List Str) (h0 : σ[0]? = some (some (.ref h))) (hh : Jr H h c r) (n0 : ws ≠ []) (hl : ws.length ≤ 1000) :
    tCall (spPick K) [] E0 (tCons (tVar 0) (tCons (tR K (.tup (ws.map GX.str))) tNil)) σ H fun v H2 => Kr h r H H2 ∧ Jr H2 h c r ∧ ∃ e, WordS ws e ∧ flatD e = true ∧ Dp K H2 v e :=
  rx_words ws h0 hh n0 hl fun w H' hw kh' hh' => ⟨kh', hh', _, ⟨w, hw, rfl⟩, rfl, .str w⟩
/-- a form under one more name -/
theorem rx_formX {K : PySem.W.Frag} {m deep i : Nat} {h c r nm : Addr} {known : List Str} {x : Str} {σ : L2.St} {H : Hp} {Q : VK} (h0 : σ[0]? = some (some (.ref h))) (h1 : σ[1]? = some (some (.int ((deep + 1 : Nat) : Int)))) (h2 : σ[2]? = some (some (.ref nm))) (h3 : σ[3]? = some (some (.ref r))) (h8 : σ[i]? = some (some (.str x)))
    (hh : Jr H h c r) (hn : SqT K H nm (known.map V.str)) (hl : known.length + deep + 1 ≤ 9) (hk : ∀ x ∈ known, gw x) (wx : gw x) (hm : deep < m)
    (k : ∀ (v : V) (t : Tr) (H' : Hp), Kr h r H H' → Jr H' h c r → Dp K H' v t.enc → Gk (dd deep) (fz deep) t → Q v H') : tCall (spForm K m) [] E0 (tCons (tVar 0) (tCons (tOp (rI0 fun i j => .int (i - j)) (tVar 1) (tC (.int 1))) (tCons (tOp (rCatA K) (tVar 2) (tTup (tCons (tVar i) tNil))) (tCons (tVar 3) tNil)))) σ H Q := by
  refine ⟨_, h0, _, h1, _, _, rfl, rfl, _, h2, _, h8, by show 1 ≤ sizeLine; decide, fun p hp => ?_⟩
  have sp := same_new (o := .tup [V.str x]) hp
  have hh2 := hh.same sp
  have kh2 := hh.kp sp
  refine cat_any (sqt_same sp hn) (.inl (.inl upd_same)) (Nat.le_trans (show (known.map V.str).length + 1 ≤ 1000 by rw [List.length_map]; omega) (by decide)) fun nm2 H3 s3 hn3 => ?_
  have hh3 := hh2.same s3
  have kh3 := hh2.kp s3
  have e3 : known.map V.str ++ [V.str x] = (known ++ [x]).map V.str := by rw [List.map_append]; rfl
  rw [e3] at hn3
  have hk3 : ∀ y ∈ known ++ [x], gw y := fun y hy => by
    rcases List.mem_append.mp hy with hy | hy
    · exact hk y hy
    · rw [List.mem_singleton.mp hy]; exact wx
  exact ⟨_, h3, h, c, r, nm2, known ++ [x], deep, by
    show [V.ref h, V.int (((deep + 1 : Nat) : Int) - 1), V.ref nm2, V.ref r] = _
    rw [dec1], hh3, hn3, by rw [List.length_append]; show known.length + 1 + deep ≤ 9; omega, hk3, hm, fun v t H4 kh4 hh4 dv g => k v t H4 ((kh2.trans kh3).trans kh4) hh4 dv g⟩
section
variable {P : Program} {w : World} {K : PySem.W.Frag} {mg : Str → Option Value} {base : Heap}
abbrev s_l_form : Stmt := top 25
abbrev N_l_form : List Str := ["_law_hand_here", "_law_deep", "_law_known", "_law_room", "_law_pick_here", "_law_one", "_law_test", "_law_yes", "_law_name", "_law_right", "_law_inner", "_law_change"]
theorem sc_l_form : FnScope N_l_form ["_law_hand_here", "_law_deep", "_law_known", "_law_room"] (defScope s_l_form) := ⟨rfl, rfl, rfl, by decide +kernel, rfl, by decide +kernel, by decide +kernel⟩
theorem ok_l_form (T : Txt mg) (c_l_draw : Cl P w K mg base 2 "_law_draw" spDraw) (c_l_pick : Cl P w K mg base 3 "_law_pick" (spPick K)) (c_l_leaf : Cl P w K mg base 3 "_law_leaf" (spK K 0 1)) (c_l_new_name : Cl P w K mg base 1 "_law_new_name" (spNewName K)) (c_l_again : Cl P w K mg base 4 "_law_again" (spK K 7 20)) (c_l_deed : Cl P w K mg base 5 "_law_deed" (spK K 10 30))
    (DL : At K mg "_law_lay" s_l_lay ["_law_hand_here", "_law_deep", "_law_known", "_law_room"]) (DC : At K mg "_law_form_of_control" s_l_form_of_control ["_law_hand_here", "_law_deep", "_law_known", "_law_room"]) (DO : At K mg "_law_loop" s_l_loop ["_law_hand_here", "_law_deep", "_law_known", "_law_room"]) (D : At K mg "_law_form" s_l_form ["_law_hand_here", "_law_deep", "_law_known", "_law_room"]) : ∀ m, Cl P w K mg base (2 * m + 6) "_law_form" (spForm K m) := by
  intro m
  induction m with
  | zero =>
    refine cl_of (k := 5) D sc_l_form (fun vs H Q E h => ?_) fun f cdv A outer s H vs Q E hr h => ?_
    · obtain ⟨h, c, r, nm, known, deep, rfl, _⟩ := h
      rfl
    · obtain ⟨h, c, r, nm, known, deep, _, _, _, _, _, z, _⟩ := h
      exact absurd z (Nat.not_lt_zero _)
  | succ m ih =>
    have c_l_lay := ok_l_lay (by omega) T c_l_draw ih DL
    have c_l_form_of_control := ok_l_control (by omega) T c_l_draw c_l_leaf c_l_new_name c_l_deed ih DC
    have c_l_loop := ok_l_loop (by omega) T c_l_draw c_l_new_name ih DO
    refine cl_of (k := 2 * m + 7) D sc_l_form (fun vs H Q E h => ?_) fun f cdv A outer s H vs Q E hr h => ?_
    · obtain ⟨h, c, r, nm, known, deep0, rfl, _⟩ := h
      rfl
    · obtain ⟨h, c, r, nm, known, deep0, rfl, hh, hn, hl, hk, hm, k⟩ := h
      have hu := hu_of hr
      have hl9 : known.length ≤ 9 := by omega
      obtain ⟨rk, x⟩ := hh
      have hh : Jr H h c r := ⟨rk, x⟩
      refine ⟨_, (pss_cons (ps_if (PW.pt (pw_or (pt_cmpR op_le (pv 1) pe_int (nomark _)) (pw_or1 (pt_cmpR op_le (pe_ix ix_list (pv 3) pe_int (fun _ _ => rfl)) pe_int (nomark _)))))
          (pss_one (ps_ret (pe_c c_l_leaf hr (by omega) (by rfl) (pa_cons (pv 0) (pa_cons (pv 2) pa_nil)))))
          pss_nil)
        (pss_mid (ps_asg (pe_op op_sub (pe_ix ix_list (pv 3) pe_int (fun _ _ => rfl)) pe_int) (pg_sub (pv 3) pe_int set_list))
        (pss_cons (ps_set (i := 4) sc_l_form.nd rfl (Or.inl rfl) (pe_c c_l_draw hr (by omega) (by rfl) (pa_cons (pv 0) (pa_cons pe_int pa_nil))))
        (pss_cons (ps_if (pt_cmpR op_lt (pv 4) pe_int (nomark _))
          (pss_one (ps_ret (pgr_tup (K := K) (pgr_cons pgr_str (pgr_cons (pgr_ex 0 (pe_c ih hr (by omega) (by rfl) (pa_cons (pv 0) (pa_cons (pe_op op_sub (pv 1) pe_int) (pa_cons (pv 2) (pa_cons (pv 3) pa_nil)))))) pgr_nil)))))
          pss_nil)
        (pss_cons (ps_if (pt_cmpR op_lt (pv 4) pe_int (nomark _))
          (pss_cons (ps_set (i := 5) sc_l_form.nd rfl (Or.inl rfl) (pe_c ih hr (by omega) (by rfl) (pa_cons (pv 0) (pa_cons (pe_op op_sub (pv 1) pe_int) (pa_cons (pv 2) (pa_cons (pv 3) pa_nil))))))
          (pss_one (ps_ret (pgr_tup (K := K) (pgr_cons pgr_str (pgr_cons (pgr_ex 0 (pe_c c_l_pick hr (by omega) (by rfl) (pa_cons (pv 0) (pa_cons (pgr_tup (K := K) (pgr_cons pgr_str (pgr_cons pgr_str (pgr_cons pgr_str (pgr_cons pgr_str (pgr_cons pgr_str (pgr_cons pgr_str (pgr_cons pgr_str (pgr_cons pgr_str pgr_nil))))))))) pa_nil)))) (pgr_cons (pgr_tup (K := K) (pgr_cons (pgr_slot (pv 5)) (pgr_cons (pgr_ex 1 (pe_c ih hr (by omega) (by rfl) (pa_cons (pv 0) (pa_cons (pe_op op_sub (pv 1) pe_int) (pa_cons (pv 2) (pa_cons (pv 3) pa_nil)))))) pgr_nil))) pgr_nil)))))))
          pss_nil)
        (pss_cons (ps_if (pt_cmpR op_lt (pv 4) pe_int (nomark _))
          (pss_one (ps_ret (pe_c c_l_form_of_control hr (by omega) (by rfl) (pa_cons (pv 0) (pa_cons (pv 1) (pa_cons (pv 2) (pa_cons (pv 3) pa_nil)))))))
          pss_nil)
        (pss_cons (ps_if (pt_cmpR op_eq (pv 4) pe_int (nomark _))
          (pss_cons (ps_set (i := 6) sc_l_form.nd rfl (Or.inl rfl) (pgr_tup (K := K) (pgr_cons pgr_str (pgr_cons (pgr_ex 0 (pe_c c_l_pick hr (by omega) (by rfl) (pa_cons (pv 0) (pa_cons (pgr_tup (K := K) (pgr_cons pgr_str (pgr_cons pgr_str pgr_nil))) pa_nil)))) (pgr_cons (pgr_tup (K := K) (pgr_cons (pgr_ex 1 (pe_c ih hr (by omega) (by rfl) (pa_cons (pv 0) (pa_cons (pe_op op_sub (pv 1) pe_int) (pa_cons (pv 2) (pa_cons (pv 3) pa_nil)))))) (pgr_cons (pgr_ex 2 (pe_c c_l_leaf hr (by omega) (by rfl) (pa_cons (pv 0) (pa_cons (pv 2) pa_nil)))) pgr_nil))) pgr_nil)))))
          (pss_cons (ps_set (i := 7) sc_l_form.nd rfl (Or.inl rfl) (pe_c ih hr (by omega) (by rfl) (pa_cons (pv 0) (pa_cons (pe_op op_sub (pv 1) pe_int) (pa_cons (pv 2) (pa_cons (pv 3) pa_nil))))))
          (pss_one (ps_ret (pgr_tup (K := K) (pgr_cons pgr_str (pgr_cons (pgr_slot (pv 6)) (pgr_cons (pgr_slot (pv 7)) (pgr_cons (pgr_ex 0 (pe_c ih hr (by omega) (by rfl) (pa_cons (pv 0) (pa_cons (pe_op op_sub (pv 1) pe_int) (pa_cons (pv 2) (pa_cons (pv 3) pa_nil)))))) pgr_nil)))))))))
          pss_nil)
        (pss_cons (ps_if (pt_cmpR op_eq (pv 4) pe_int (nomark _))
          (pss_cons (ps_set (i := 8) sc_l_form.nd rfl (Or.inl rfl) (pe_c c_l_new_name hr (by omega) (by rfl) (pa_cons (pv 2) pa_nil)))
          (pss_cons (ps_set (i := 9) sc_l_form.nd rfl (Or.inl rfl) (pe_c ih hr (by omega) (by rfl) (pa_cons (pv 0) (pa_cons (pe_op op_sub (pv 1) pe_int) (pa_cons (pv 2) (pa_cons (pv 3) pa_nil))))))
          (pss_one (ps_ret (pgr_tup (K := K) (pgr_cons pgr_str (pgr_cons (pgr_tup (K := K) (pgr_cons (pgr_tup (K := K) (pgr_cons (pgr_slot (pv 8)) (pgr_cons (pgr_slot (pv 9)) pgr_nil))) pgr_nil)) (pgr_cons (pgr_ex 0 (pe_c ih hr (by omega) (by rfl) (pa_cons (pv 0) (pa_cons (pe_op op_sub (pv 1) pe_int) (pa_cons (pe_op op_catA (pv 2) (pe_tup (pa_cons (pv 8) pa_nil))) (pa_cons (pv 3) pa_nil)))))) pgr_nil))))))))
          pss_nil)
        (pss_cons (ps_if (pt_cmpR op_eq (pv 4) pe_int (nomark _))
          (pss_cons (ps_set (i := 5) sc_l_form.nd rfl (Or.inl rfl) (pe_c ih hr (by omega) (by rfl) (pa_cons (pv 0) (pa_cons (pe_op op_sub (pv 1) pe_int) (pa_cons (pv 2) (pa_cons (pv 3) pa_nil))))))
          (pss_one (ps_ret (pgr_tup (K := K) (pgr_cons pgr_str (pgr_cons (pgr_tup (K := K) (pgr_cons (pgr_slot (pv 5)) (pgr_cons (pgr_ex 0 (pe_c ih hr (by omega) (by rfl) (pa_cons (pv 0) (pa_cons (pe_op op_sub (pv 1) pe_int) (pa_cons (pv 2) (pa_cons (pv 3) pa_nil)))))) pgr_nil))) pgr_nil))))))
          pss_nil)
        (pss_cons (ps_if (pt_cmpR op_eq (pv 4) pe_int (nomark _))
          (pss_cons (ps_set (i := 8) sc_l_form.nd rfl (Or.inl rfl) (pe_c c_l_new_name hr (by omega) (by rfl) (pa_cons (pv 2) pa_nil)))
          (pss_cons (ps_set (i := 10) sc_l_form.nd rfl (Or.inl rfl) (pe_c ih hr (by omega) (by rfl) (pa_cons (pv 0) (pa_cons (pe_op op_sub (pv 1) pe_int) (pa_cons (pe_op op_catA (pv 2) (pe_tup (pa_cons (pv 8) pa_nil))) (pa_cons (pv 3) pa_nil))))))
          (pss_one (ps_ret (pgr_tup (K := K) (pgr_cons pgr_str (pgr_cons (pgr_tup (K := K) (pgr_cons pgr_str (pgr_cons (pgr_tup (K := K) (pgr_cons (pgr_slot (pv 8)) pgr_nil)) (pgr_cons (pgr_slot (pv 10)) pgr_nil)))) (pgr_cons (pgr_tup (K := K) (pgr_cons (pgr_ex 0 (pe_c ih hr (by omega) (by rfl) (pa_cons (pv 0) (pa_cons (pe_op op_sub (pv 1) pe_int) (pa_cons (pv 2) (pa_cons (pv 3) pa_nil)))))) pgr_nil)) pgr_nil))))))))
          pss_nil)
        (pss_cons (ps_if (pt_cmpR op_eq (pv 4) pe_int (nomark _))
          (pss_one (ps_ret (pe_c c_l_again hr (by omega) (by rfl) (pa_cons (pv 0) (pa_cons (pv 2) pa_nil)))))
          pss_nil)
        (pss_cons (ps_if (pt_cmpR op_eq (pv 4) pe_int (nomark _))
          (pss_one (ps_ret (pe_c c_l_lay hr (by omega) (by rfl) (pa_cons (pv 0) (pa_cons (pv 1) (pa_cons (pv 2) (pa_cons (pv 3) pa_nil)))))))
          pss_nil)
        (pss_cons (ps_if (pt_cmpR op_eq (pv 4) pe_int (nomark _))
          (pss_one (ps_ret (pe_c c_l_loop hr (by omega) (by rfl) (pa_cons (pv 0) (pa_cons (pv 1) (pa_cons (pv 2) (pa_cons (pv 3) pa_nil)))))))
          pss_nil)
        (pss_cons (ps_if (pt_cmpR op_eq (pv 4) pe_int (nomark _))
          (pss_cons (ps_set (i := 11) sc_l_form.nd rfl (Or.inl rfl) (pgr_tup (K := K) (pgr_cons pgr_str (pgr_cons (pgr_ex 0 (pe_c c_l_pick hr (by omega) (by rfl) (pa_cons (pv 0) (pa_cons (pgr_tup (K := K) (pgr_cons pgr_str (pgr_cons pgr_str pgr_nil))) pa_nil)))) (pgr_cons (pgr_tup (K := K) (pgr_cons (pgr_tup (K := K) (pgr_cons pgr_str (pgr_cons pgr_str pgr_nil))) (pgr_cons (pgr_ex 1 (pe_c c_l_leaf hr (by omega) (by rfl) (pa_cons (pv 0) (pa_cons (pv 2) pa_nil)))) pgr_nil))) pgr_nil)))))
          (pss_one (ps_ret (pgr_tup (K := K) (pgr_cons pgr_str (pgr_cons (pgr_tup (K := K) (pgr_cons (pgr_slot (pv 11)) (pgr_cons (pgr_tup (K := K) (pgr_cons pgr_str (pgr_cons (pgr_tup (K := K) (pgr_cons pgr_str (pgr_cons pgr_str pgr_nil))) pgr_nil))) (pgr_cons (pgr_ex 0 (pe_c ih hr (by omega) (by rfl) (pa_cons (pv 0) (pa_cons (pe_op op_sub (pv 1) pe_int) (pa_cons (pv 2) (pa_cons (pv 3) pa_nil)))))) pgr_nil)))) pgr_nil))))))
          pss_nil)
        (pss_one (ps_ret (pe_c c_l_form_of_control hr (by omega) (by rfl) (pa_cons (pv 0) (pa_cons (pv 1) (pa_cons (pv 2) (pa_cons (pv 3) pa_nil))))))))))))))))))))), ?_⟩
      have leafE : tCall (spK K 0 1) [] E0 (tCons (tVar 0) (tCons (tVar 2) tNil)) (L2.start N_l_form [V.ref h, V.int (deep0 : Nat), V.ref nm, V.ref r]) H Q := rx_k rfl rfl hh hn hl9 hk fun v t H' kh hh' dv g => k v t H' kh hh' dv (g.mono (Nat.zero_le _) (by
        cases deep0 with
        | zero => exact Nat.le_refl _
        | succ d => show 1 ≤ 3 * fz d + 90; omega))
      refine ⟨_, rfl, _, _, rfl, rfl, _, rfl, ?_⟩
      refine ite2 (fun _ => iteT leafE) (fun hd0 => ?_)
      refine ⟨_, rfl, _, _, _, _, rfl, rfl, .inl (.inl x.rm), rfl, _, _, rfl, rfl, _, rfl, ?_⟩
      refine ite2 (fun _ => leafE) (fun hk0 => ?_)
      clear leafE
      obtain ⟨deep, rfl⟩ : ∃ deep, deep0 = deep + 1 := ⟨deep0 - 1, by
        have : ¬ ((deep0 : Nat) : Int) ≤ 0 := fun z => hd0 (decide_eq_true z)
        omega⟩
      obtain ⟨k1, rfl⟩ : ∃ k1, rk = k1 + 1 := ⟨rk - 1, by
        have : ¬ ((rk : Nat) : Int) ≤ 0 := fun z => hk0 (decide_eq_true z)
        omega⟩
      clear hd0 hk0
      have fs : fz (deep + 1) = 3 * fz deep + 90 := rfl
      have ds : dd (deep + 1) = 11 + dd deep := by unfold dd; omega
      have d4' : 4 ≤ dd deep := Nat.le_add_right _ _
      have hm' : deep < m := by omega
      refine ⟨fun σ' H' => σ' = [some (.ref h), some (.int ((deep + 1 : Nat) : Int)), some (.ref nm), some (.ref r), none, none, none, none, none, none, none, none] ∧ Jr H' h c r ∧ Kr h r H H', ?_, ?_⟩
      · refine ⟨_, rfl, _, _, _, _, rfl, rfl, .inl (.inl x.rm), rfl, _, _, rfl, rfl, _, rfl, r, _, _, 0, rfl, rfl, x.rm, rfl, rfl, ?_⟩
        have e : ((k1 + 1 : Nat) : Int) - 1 = ((k1 : Nat) : Int) := dec1 k1
        have z := x.less
        rw [← e] at z
        exact ⟨⟨_, z.1⟩, z.2⟩
      rintro σ' H0 ⟨rfl, hh0, kh0⟩
      have ctl : ∀ {n : Int} {H' : Hp}, Kr h r H H' → Jr H' h c r → tCall (spCtl K m) [] E0 (tCons (tVar 0) (tCons (tVar 1) (tCons (tVar 2) (tCons (tVar 3) tNil)))) [some (.ref h), some (.int ((deep + 1 : Nat) : Int)), some (.ref nm), some (.ref r), some (.int n), none, none, none, none, none, none, none] H' Q :=
        fun kh' hh' => ⟨_, rfl, _, rfl, _, rfl, _, rfl, h, c, r, nm, known, deep, rfl, hh', kh'.tup hn, by omega, hk, hm', fun v t H2 kh2 hh2 dv g => k v t H2 (kh'.trans kh2) hh2 dv (g.mono (by omega) (Nat.le_refl _))⟩
      refine rx_draw rfl hh0 (by decide) (by decide) fun n H1 n0 n1 kh1' hh1 => ?_
      have kh1 := kh0.trans kh1'
      have hn1 := kh1.tup hn
      have hl1 : known.length + deep ≤ 9 := by omega
      refine ⟨_, rfl, _, _, rfl, rfl, _, rfl, ?_⟩
      refine ite2 (fun _ => ?_) (fun _ => ?_)
      · refine ⟨h, c, r, fun _ => .int 0, fun _ => TreeK (dd deep) (fz deep), hh1, True.intro, And.intro (fun H2 kh2 hh2 => rx_form2 rfl rfl rfl rfl kh2 hh2 hn1 hl1 hk hm') True.intro, fun v H2 τ kh2 hh2 als ft dp => ?_⟩
        obtain ⟨⟨t, e1, g⟩, _⟩ := als
        have dp' : Dp K H2 v (.tuple [.str "show", τ 0]) := dp
        rw [show τ 0 = t.enc from e1] at dp'
        exact k v (.mk (.plain "show") [t]) H2 (kh1.trans kh2) hh2 dp' ((gk_show g).mono (by omega) (by omega))
      refine ⟨_, rfl, _, _, rfl, rfl, _, rfl, ?_⟩
      refine ite2 (fun _ => ?_) (fun _ => ?_)
      · refine rx_form rfl rfl rfl rfl hh1 hn1 hl1 hk hm' fun v5 one H2 kh2 hh2 d5 g5 => ?_
        refine ⟨h, c, r, fun _ => one.enc, fun | 0 => WordS ["+", "-", "+", "*", "quot", "rem", "+", "-"] | _ => TreeK (dd deep) (fz deep), hh2, And.intro ⟨_, rfl, d5, flat_enc _⟩ True.intro, And.intro (fun H3 kh3 hh3 => rx_words2 ["+", "-", "+", "*", "quot", "rem", "+", "-"] rfl hh3 (by intro z; cases z) (by decide)) (And.intro (fun H3 kh3 hh3 => rx_form2 rfl rfl rfl rfl kh3 hh3 (kh2.tup hn1) hl1 hk hm') True.intro), fun v H3 τ kh3 hh3 als ft dp => ?_⟩
        obtain ⟨⟨o, ho, e0⟩, ⟨t, e1, g⟩, _⟩ := als
        have dp' : Dp K H3 v (.tuple [.str "op", τ 0, .tuple [one.enc, τ 1]]) := dp
        rw [show τ 0 = .str o from e0, show τ 1 = t.enc from e1] at dp'
        have sw : ∀ w ∈ (["+", "-", "+", "*", "quot", "rem", "+", "-"] : List Str), go w := by decide +kernel
        exact k v (.mk (.op o) [one, t]) H3 ((kh1.trans kh2).trans kh3) hh3 dp' ((gk_op (d := dd deep) (sw o ho) (g5.cons (g.cons Gks.nil))).mono (by omega) (by omega))
      refine ⟨_, rfl, _, _, rfl, rfl, _, rfl, ?_⟩
      refine ite2 (fun _ => ctl kh1 hh1) (fun _ => ?_)
      refine ⟨_, rfl, rfl, _, rfl, ?_⟩
      by_cases q : n = 8
      · refine iteIeq q ⟨h, c, r, fun _ => .int 0, fun | 0 => WordS ["<", "="] | 1 => TreeK (dd deep) (fz deep) | _ => TreeK 0 1, hh1, True.intro, And.intro (fun H3 kh3 hh3 => rx_words2 ["<", "="] rfl hh3 (by intro z; cases z) (by decide)) (And.intro (fun H3 kh3 hh3 => rx_form2 rfl rfl rfl rfl kh3 hh3 hn1 hl1 hk hm') (And.intro (fun H3 kh3 hh3 => rx_k2 rfl rfl kh3 hh3 hn1 hl9 hk) True.intro)), fun v6 H2 τ kh2 hh2 als ft dp => ?_⟩
        obtain ⟨⟨o, ho, e0⟩, ⟨t, e1, g⟩, ⟨lf, e2, gl⟩, _⟩ := als
        have dp' : Dp K H2 v6 (.tuple [.str "op", τ 0, .tuple [τ 1, τ 2]]) := dp
        rw [show τ 0 = .str o from e0, show τ 1 = t.enc from e1, show τ 2 = lf.enc from e2] at dp'
        have sw : ∀ w ∈ (["<", "="] : List Str), go w := by decide +kernel
        have d6 : Dp K H2 v6 (Tr.mk (.op o) [t, lf]).enc := dp'
        have g6 : Gk (2 + dd deep) (fz deep + 2) (.mk (.op o) [t, lf]) := (gk_op (d := dd deep) (sw o ho) (g.cons (gl.cons Gks.nil))).mono (by omega) (by omega)
        generalize Tr.mk (.op o) [t, lf] = test at *
        refine rx_form rfl rfl rfl rfl hh2 (kh2.tup hn1) hl1 hk hm' fun v7 yes H3 kh3 hh3 d7 g7 => ?_
        have kh13 := kh2.trans kh3
        refine ⟨h, c, r, fun | 6 => test.enc | _ => yes.enc, fun _ => TreeK (dd deep) (fz deep), hh3, And.intro ⟨_, rfl, mvR kh3 d6, flat_enc _⟩ (And.intro ⟨_, rfl, d7, flat_enc _⟩ True.intro), And.intro (fun H4 kh4 hh4 => rx_form2 rfl rfl rfl rfl kh4 hh4 (kh13.tup hn1) hl1 hk hm') True.intro, fun v H4 τ kh4 hh4 als ft dp => ?_⟩
        obtain ⟨⟨no, e1, gn⟩, _⟩ := als
        have dp' : Dp K H4 v (.tuple [.str "if", test.enc, yes.enc, τ 0]) := dp
        rw [show τ 0 = no.enc from e1] at dp'
        exact k v (.mk (.plain "if") [test, yes, no]) H4 ((kh1.trans kh13).trans kh4) hh4 dp' ((gk_if (d := 2 + dd deep) (g6.cons (g7.cons (gn.cons Gks.nil)))).mono (by omega) (by omega))
      refine iteIne q ⟨_, rfl, rfl, _, rfl, ?_⟩
      by_cases q : n = 9
      · refine iteIeq q ⟨_, rfl, nm, known, rfl, hn1, hl9, fun x wx => ?_⟩
        refine rx_form rfl rfl rfl rfl hh1 hn1 hl1 hk hm' fun v9 right H2 kh2 hh2 d9 g9 => ?_
        refine ⟨h, c, r, fun | 9 => right.enc | _ => .str x, fun _ => TreeK (dd deep) (fz deep), hh2, And.intro ⟨_, rfl, .str x, rfl⟩ (And.intro ⟨_, rfl, d9, flat_enc _⟩ True.intro), And.intro (fun H3 kh3 hh3 => rx_formX rfl rfl rfl rfl rfl hh3 (kh3.tup (kh2.tup hn1)) (by omega) hk wx hm' fun v t H' kh' hh' dv g => ⟨kh', hh', t.enc, ⟨t, rfl, g⟩, flat_enc t, dv⟩) True.intro, fun v H3 τ kh3 hh3 als ft dp => ?_⟩
        obtain ⟨⟨t, e1, g⟩, _⟩ := als
        have dp' : Dp K H3 v (.tuple [.str "let", .tuple [.tuple [.str x, right.enc]], τ 0]) := dp
        rw [show τ 0 = t.enc from e1] at dp'
        exact k v (.mk (.bind "let" [x]) [right, t]) H3 ((kh1.trans kh2).trans kh3) hh3 dp' ((gk_let (d := dd deep) (all_cons wx all_nil) (g9.cons (g.cons Gks.nil))).mono (by omega) (by omega))
      refine iteIne q ⟨_, rfl, rfl, _, rfl, ?_⟩
      by_cases q : n = 10
      · refine iteIeq q (rx_form rfl rfl rfl rfl hh1 hn1 hl1 hk hm' fun v5 one H2 kh2 hh2 d5 g5 => ?_)
        refine ⟨h, c, r, fun _ => one.enc, fun _ => TreeK (dd deep) (fz deep), hh2, And.intro ⟨_, rfl, d5, flat_enc _⟩ True.intro, And.intro (fun H3 kh3 hh3 => rx_form2 rfl rfl rfl rfl kh3 hh3 (kh2.tup hn1) hl1 hk hm') True.intro, fun v H3 τ kh3 hh3 als ft dp => ?_⟩
        obtain ⟨⟨t, e1, g⟩, _⟩ := als
        have dp' : Dp K H3 v (.tuple [.str "do", .tuple [one.enc, τ 0]]) := dp
        rw [show τ 0 = t.enc from e1] at dp'
        exact k v (.mk .doo [one, t]) H3 ((kh1.trans kh2).trans kh3) hh3 dp' ((gk_do (d := dd deep) (g5.cons (g.cons Gks.nil))).mono (by omega) (by omega))
      refine iteIne q ⟨_, rfl, rfl, _, rfl, ?_⟩
      by_cases q : n = 11
      · refine iteIeq q ⟨_, rfl, nm, known, rfl, hn1, hl9, fun x wx => ?_⟩
        refine rx_formX rfl rfl rfl rfl rfl hh1 hn1 (by omega) hk wx hm' fun v10 inner H2 kh2 hh2 d10 g10 => ?_
        refine ⟨h, c, r, fun | 10 => inner.enc | _ => .str x, fun _ => TreeK (dd deep) (fz deep), hh2, And.intro ⟨_, rfl, .str x, rfl⟩ (And.intro ⟨_, rfl, d10, flat_enc _⟩ True.intro), And.intro (fun H3 kh3 hh3 => rx_form2 rfl rfl rfl rfl kh3 hh3 (kh2.tup hn1) hl1 hk hm') True.intro, fun v H3 τ kh3 hh3 als ft dp => ?_⟩
        obtain ⟨⟨t, e1, g⟩, _⟩ := als
        have dp' : Dp K H3 v (.tuple [.str "call", .tuple [.str "fn", .tuple [.str x], inner.enc], .tuple [τ 0]]) := dp
        rw [show τ 0 = t.enc from e1] at dp'
        exact k v (.mk .call [.mk (.fn [x]) [inner], t]) H3 ((kh1.trans kh2).trans kh3) hh3 dp' ((gk_call (d := 2 + dd deep) ((gk_fn (all_cons wx all_nil) g10).cons (g.cons Gks.nil))).mono (by omega) (by omega))
      refine iteIne q ⟨_, rfl, rfl, _, rfl, ?_⟩
      by_cases q : n = 12
      · exact iteIeq q (rx_k rfl rfl hh1 hn1 hl9 hk fun v t H' kh' hh' dv g => k v t H' (kh1.trans kh') hh' dv (g.mono (by omega) (by omega)))
      refine iteIne q ⟨_, rfl, rfl, _, rfl, ?_⟩
      by_cases q : n = 13
      · exact iteIeq q (ctl kh1 hh1)
      refine iteIne q ⟨_, rfl, rfl, _, rfl, ?_⟩
      by_cases q : n = 14
      · exact iteIeq q (ctl kh1 hh1)
      refine iteIne q ⟨_, rfl, rfl, _, rfl, ?_⟩
      by_cases q : n = 15
      · have wp : gw "p" := by decide +kernel
        refine iteIeq q ⟨h, c, r, fun _ => .int 0, fun | 0 => WordS ["left!", "right!"] | _ => TreeK 0 1, hh1, True.intro, And.intro (fun H3 kh3 hh3 => rx_words2 ["left!", "right!"] rfl hh3 (by intro z; cases z) (by decide)) (And.intro (fun H3 kh3 hh3 => rx_k2 rfl rfl kh3 hh3 hn1 hl9 hk) True.intro), fun v11 H2 τ kh2 hh2 als ft dp => ?_⟩
        obtain ⟨⟨o, ho, e0⟩, ⟨lf, e2, gl⟩, _⟩ := als
        have dp' : Dp K H2 v11 (.tuple [.str "op", τ 0, .tuple [(Tr.mk (.name "p") []).enc, τ 1]]) := dp
        rw [show τ 0 = .str o from e0, show τ 1 = lf.enc from e2] at dp'
        have sw : ∀ w ∈ (["left!", "right!"] : List Str), go w := by decide +kernel
        have d6 : Dp K H2 v11 (Tr.mk (.op o) [.mk (.name "p") [], lf]).enc := dp'
        have g6 : Gk 2 3 (.mk (.op o) [.mk (.name "p") [], lf]) := gk_op (d := 0) (sw o ho) ((gk_name wp).cons (gl.cons Gks.nil))
        generalize Tr.mk (.op o) [.mk (.name "p") [], lf] = chg at *
        refine ⟨h, c, r, fun _ => chg.enc, fun _ => TreeK (dd deep) (fz deep), hh2, And.intro ⟨_, rfl, d6, flat_enc _⟩ True.intro, And.intro (fun H3 kh3 hh3 => rx_form2 rfl rfl rfl rfl kh3 hh3 (kh2.tup hn1) hl1 hk hm') True.intro, fun v H3 τ kh3 hh3 als ft dp => ?_⟩
        obtain ⟨⟨t, e1, g⟩, _⟩ := als
        have dp' : Dp K H3 v (.tuple [.str "do", .tuple [chg.enc, (Tr.mk (.plain "show") [.mk (.name "p") []]).enc, τ 0]]) := dp
        rw [show τ 0 = t.enc from e1] at dp'
        exact k v (.mk .doo [chg, .mk (.plain "show") [.mk (.name "p") []], t]) H3 ((kh1.trans kh2).trans kh3) hh3 dp' ((gk_do (d := dd deep) (g6.cons ((gk_show (gk_name wp)).cons (g.cons Gks.nil)))).mono (by omega) (by omega))
      exact iteIne q (ctl kh1 hh1)
end
end K04

namespace K04
open PySem L2 Cm
def spProgram (K : PySem.W.Frag) : Sp := fun vs H Q _ => ∃ (h c : Addr), vs = [.ref h, .int 4, .int 10] ∧ Hand H h c ∧
  ∀ (v : V) (t : Tr) (H' : Hp), Kh h H H' → Hand H' h c → Dp K H' v t.enc → Gk 54 4300 t → Q v H'
theorem gks_snoc {d d1 n m : Nat} {t : Tr} : ∀ {ts : List Tr}, Gks d n ts → Gk d1 m t → d1 ≤ d → Gks d (n + m) (ts ++ [t]) := fun {ts} g r e =>
  ⟨fun u mu => by
    rcases List.mem_append.mp mu with mu | mu
    · exact g.al u mu
    · rw [List.mem_singleton.mp mu]
      exact ⟨r.ok, r.nw, r.gd, by have := r.ld; omega⟩, by
    rw [sizes_snoc]
    have := g.sz
    have := r.sz
    omega⟩
section
variable {P : Program} {w : World} {K : PySem.W.Frag} {mg : Str → Option Value} {base : Heap}
abbrev s_l_program : Stmt := top 28
abbrev N_l_program : List Str := ["_law_hand_here", "_law_deep", "_law_many", "_law_room", "_law_main", "_law_tail", "_law_pair", "_law_rows"]
theorem sc_l_program : FnScope N_l_program ["_law_hand_here", "_law_deep", "_law_many"] (defScope s_l_program) := ⟨rfl, rfl, rfl, by decide +kernel, rfl, by decide +kernel, by decide +kernel⟩
theorem ok_l_program (T : Txt mg) (c_l_draw : Cl P w K mg base 2 "_law_draw" spDraw) (c_l_again : Cl P w K mg base 4 "_law_again" (spK K 7 20)) (c_l_form : Cl P w K mg base 16 "_law_form" (spForm K 5)) (c_l_lay : Cl P w K mg base 17 "_law_lay" (spCtl K 5)) (D : At K mg "_law_program" s_l_program ["_law_hand_here", "_law_deep", "_law_many"]) : Cl P w K mg base 18 "_law_program" (spProgram K) := by
  refine cl_of (k := 17) D sc_l_program (fun vs H Q E h => ?_) fun f cdv A outer s H vs Q E hr h => ?_
  · obtain ⟨h, c, rfl, _⟩ := h
    rfl
  · obtain ⟨h, c, rfl, hd, k⟩ := h
    have hu := hu_of hr
    refine ⟨_, (pss_cons (ps_set (i := 3) sc_l_program.nd rfl (Or.inl rfl) (pe_lst (pa_cons (pv 2) pa_nil)))
      (pss_cons (ps_set (i := 4) sc_l_program.nd rfl (Or.inl rfl) (pe_c c_l_form hr (by omega) (by rfl) (pa_cons (pv 0) (pa_cons (pv 1) (pa_cons (pe_tup pa_nil) (pa_cons (pv 3) pa_nil))))))
      (pss_cons (ps_set (i := 5) sc_l_program.nd rfl (Or.inl rfl) (pe_lst (pa_cons (pgr_tup (K := K) (pgr_cons pgr_str (pgr_cons (pgr_slot (pv 4)) pgr_nil))) (pa_cons (pe_c c_l_again hr (by omega) (by rfl) (pa_cons (pv 0) (pa_cons (pe_tup pa_nil) pa_nil))) pa_nil))))
      (pss_mid (ps_if (pt_cmpR op_eq (pe_c c_l_draw hr (by omega) (by rfl) (pa_cons (pv 0) (pa_cons pe_int pa_nil))) pe_int (nomark _))
        (pss_one (ps_set (i := 5) sc_l_program.nd rfl (Or.inl rfl) (pe_op op_cat (pe_lst (pa_cons (pgr_tup (K := K) (pgr_cons pgr_str (pgr_cons pgr_str (pgr_cons (pgr_tup (K := K) (pgr_cons pgr_str (pgr_cons pgr_str (pgr_cons (pgr_tup (K := K) (pgr_cons pgr_str (pgr_cons pgr_str pgr_nil))) pgr_nil)))) pgr_nil)))) pa_nil)) (pv 5))))
        pss_nil)
      (pss_mid (ps_if (pt_cmpR op_eq (pe_c c_l_draw hr (by omega) (by rfl) (pa_cons (pv 0) (pa_cons pe_int pa_nil))) pe_int (nomark _))
        (pss_one (ps_expr (pe_bm PySem.F.plainAttrs_list PySem.F.slot_list_append PySem.F.type_list_append mt_append (pv 5) (pa_cons (pe_c c_l_lay hr (by omega) (by rfl) (pa_cons (pv 0) (pa_cons pe_int (pa_cons (pe_tup pa_nil) (pa_cons (pv 3) pa_nil))))) pa_nil))))
        pss_nil)
      (pss_cons (ps_set (i := 6) sc_l_program.nd rfl (Or.inl rfl) (pgr_tup (K := K) (pgr_cons pgr_str (pgr_cons pgr_str (pgr_cons (pgr_tup (K := K) (pgr_cons (pgr_tup (K := K) (pgr_cons pgr_str (pgr_cons pgr_int pgr_nil))) (pgr_cons (pgr_tup (K := K) (pgr_cons pgr_str pgr_nil)) pgr_nil))) pgr_nil)))))
      (pss_cons (ps_set (i := 7) sc_l_program.nd rfl (Or.inl rfl) (pgr_tup (K := K) (pgr_cons (pgr_tup (K := K) (pgr_cons pgr_str (pgr_cons (pgr_tup (K := K) (pgr_cons pgr_str pgr_nil)) pgr_nil))) (pgr_cons (pgr_tup (K := K) (pgr_cons pgr_str (pgr_cons (pgr_tup (K := K) (pgr_cons pgr_str pgr_nil)) pgr_nil))) (pgr_cons (pgr_tup (K := K) (pgr_cons pgr_str (pgr_cons (pgr_tup (K := K) (pgr_cons pgr_str (pgr_cons pgr_int pgr_nil))) pgr_nil))) (pgr_cons (pgr_tup (K := K) (pgr_cons pgr_str (pgr_cons (pgr_slot (pv 6)) pgr_nil))) pgr_nil))))))
      (pss_one (ps_ret (pgr_tup (K := K) (pgr_cons pgr_str (pgr_cons (pgr_slot (pv 7)) (pgr_cons (pgr_tup (K := K) (pgr_cons pgr_str (pgr_cons (pgr_ex 0 (pe_tupleOf (by rfl) T.tuple (pv 5))) pgr_nil))) pgr_nil))))))))))))), ?_⟩
    have wn : gw "n" := by decide +kernel
    have wj : gw "j" := by decide +kernel
    have wp : gw "p" := by decide +kernel
    have wk' : gw "k" := by decide +kernel
    have ww : gw "w" := by decide +kernel
    refine ⟨_, rfl, by show 1 ≤ sizeLine; decide, fun r hr0 => ?_⟩
    have s0 := same_new (o := .lst [V.int 10]) hr0
    have nr := hd.there hr0
    have gn : Gn (upd H r (.lst [V.int 10])) h c r 10 := ⟨hd.same s0, upd_same, nr.1, nr.2⟩
    have hh0 : Jr (upd H r (.lst [V.int 10])) h c r := ⟨10, gn⟩
    generalize upd H r (.lst [V.int 10]) = H0 at *
    have base0 : ∀ {H' : Hp}, Kr h r H0 H' → Kh h H H' := fun {H'} kr => ⟨fun b o n e => kr.st b o (fun z => z.elim n fun z => by rw [z, hr0] at e; cases e) (s0 _ _ e), fun a m => by rw [m]; exact hd.lst, fun a m => kr.l2 a (.inl m)⟩
    refine ⟨_, rfl, _, rfl, by show 0 ≤ sizeLine; decide, fun e0 he0 => ?_⟩
    have s1 := same_new (o := .tup ([] : List V)) he0
    have hh1 := hh0.same s1
    have kh1 := hh0.kp s1
    refine ⟨_, rfl, h, c, r, e0, [], 4, rfl, hh1, .inl (.inl upd_same), by decide, all_nil, by decide, fun v4 main H2 kh2 hh2 d4 g4 => ?_⟩
    have kh02 := kh1.trans kh2
    refine tr_pure (fun _ => main.enc) hh2 (And.intro ⟨_, rfl, d4, flat_enc _⟩ True.intro) rfl fun va H3 kh3 hh3 da => ?_
    have da' : Dp K H3 va (Tr.mk (.plain "show") [main]).enc := da
    have ga : Gk 49 3700 (.mk (.plain "show") [main]) := (gk_show g4).mono (by decide) (by decide)
    generalize Tr.mk (.plain "show") [main] = sh at *
    refine ⟨_, rfl, by show 0 ≤ sizeLine; decide, fun e1 he1 => ?_⟩
    have s4 := same_new (o := .tup ([] : List V)) he1
    have hh4 := hh3.same s4
    have kh4 := hh3.kp s4
    refine ⟨h, c, r, e1, [], rfl, hh4, .inl (.inl upd_same), by decide, all_nil, fun vb ag H5 kh5 hh5 db gb => ?_⟩
    refine ⟨by show 2 ≤ sizeLine; decide, fun L hL => ?_⟩
    have s6 := same_new (o := .lst [va, vb]) hL
    have hh6 := hh5.same s6
    have kh6 := hh5.kp s6
    have kh06 := (kh02.trans kh3).trans ((kh4.trans kh5).trans kh6)
    have eL : upd H5 L (.lst [va, vb]) L = some (.lst [va, vb]) := upd_same
    have dL : DpAll K (upd H5 L (.lst [va, vb])) [va, vb] (Tr.encL [sh, ag]) := .cons (mvR ((kh4.trans kh5).trans kh6) da') (.cons (dp_same s6 _ _ db) .nil)
    have L0 : H0 L = none := ((kh02.trans kh3).trans (kh4.trans kh5)).free hL
    have gL : Gks 49 3720 [sh, ag] := ga.cons ((gb.mono (d' := 49) (by decide) (Nat.le_refl _)).one)
    generalize upd H5 L (.lst [va, vb]) = H6 at *
    let St := fun (n m : Nat) (σ' : L2.St) (H' : Hp) => ∃ (L : Addr) (acc : List V) (ts : List Tr), σ' = [some (.ref h), some (.int 4), some (.int 10), some (.ref r), some v4, some (.ref L), none, none] ∧ Kr h r H0 H' ∧ Jr H' h c r ∧ H0 L = none ∧ H' L = some (.lst acc) ∧ DpAll K H' acc (Tr.encL ts) ∧ Gks 49 n ts ∧ ts.length ≤ m
    refine ⟨St 3730 3, ?_, ?_⟩
    · refine rx_draw rfl hh6 (by decide) (by decide) fun n H7 n0 n1 kh7 hh7 => ⟨rfl, _, rfl, ?_⟩
      have LM : ¬ (L = h ∨ L = r) := kh06.m_of L0
      have eL7 := kh7.st _ _ LM eL
      have dL7 := dps_keep (fun _ _ q => kh7.tup q) _ _ (flat_encL _) dL
      refine ite2 (fun _ => ?_) (fun _ => ⟨L, [va, vb], [sh, ag], rfl, kh06.trans kh7, hh7, L0, eL7, dL7, ⟨gL.al, Nat.le_trans gL.sz (by decide)⟩, Nat.le_of_ble_eq_true rfl⟩)
      refine tr_pure (fun _ => .int 0) hh7 True.intro rfl fun vc H8 kh8 hh8 dc => ?_
      have dc' : Dp K H8 vc (Tr.mk (.one "set" "k") [.mk (.one "keep" "w") [.mk (.name "w") []]]).enc := dc
      have gc : Gk 49 3 (.mk (.one "set" "k") [.mk (.one "keep" "w") [.mk (.name "w") []]]) := (gk_one (by decide) wk' (gk_one (by decide) ww (gk_name ww))).mono (by decide) (by decide)
      generalize Tr.mk (.one "set" "k") [.mk (.one "keep" "w") [.mk (.name "w") []]] = se at *
      refine ⟨by show 1 ≤ sizeLine; decide, fun M hM => ?_⟩
      have s9 := same_new (o := .lst [vc]) hM
      have hh9 := hh8.same s9
      have kh9 := hh8.kp s9
      have eL9 := s9 _ _ (kh8.st _ _ LM eL7)
      refine ⟨_, rfl, M, L, _, _, rfl, rfl, upd_same, eL9, by show 1 + 2 ≤ sizeLine; decide, fun N hN => ?_⟩
      have s10 := same_new (o := .lst ([vc] ++ [va, vb])) hN
      refine ⟨N, [vc] ++ [va, vb], [se, sh, ag], rfl, ((kh06.trans kh7).trans (kh8.trans kh9)).trans (hh9.kp s10), hh9.same s10, ?_, upd_same, ?_, ⟨(gc.cons gL).al, Nat.le_trans (gc.cons gL).sz (by decide)⟩, Nat.le_of_ble_eq_true rfl⟩
      · exact ((kh06.trans kh7).trans (kh8.trans kh9)).free hN
      · exact .cons (dp_same (s9.trans s10) _ _ dc') (dps_same s10 _ _ (dps_same s9 _ _ (dps_keep (fun _ _ q => kh8.tup q) _ _ (flat_encL _) dL7)))
    clear eL dL L0 gL kh06 hh6 kh6
    rintro σ' H7 ⟨L, acc, ts, rfl, kh07, hh7, L0, eL, dL, gL, lL⟩
    refine ⟨St 4200 4, ?_, ?_⟩
    · refine rx_draw rfl hh7 (by decide) (by decide) fun n H8 n0 n1 kh8 hh8 => ⟨rfl, _, rfl, ?_⟩
      have LM : ¬ (L = h ∨ L = r) := kh07.m_of L0
      have eL8 := kh8.st _ _ LM eL
      have dL8 := dps_keep (fun _ _ q => kh8.tup q) _ _ (flat_encL _) dL
      refine ite2 (fun _ => ?_) (fun _ => ⟨L, acc, ts, rfl, kh07.trans kh8, hh8, L0, eL8, dL8, ⟨gL.al, Nat.le_trans gL.sz (by decide)⟩, by omega⟩)
      refine ⟨_, rfl, .inl ⟨rfl, acc, .inl (.inl eL8)⟩, _, rfl, by show 0 ≤ sizeLine; decide, fun e2 he2 => ?_⟩
      have s9 := same_new (o := .tup ([] : List V)) he2
      have hh9 := hh8.same s9
      have kh9 := hh8.kp s9
      refine ⟨_, rfl, h, c, r, e2, [], 1, rfl, hh9, .inl (.inl upd_same), by decide, all_nil, by decide, fun vl lay H10 kh10 hh10 dl gl => ?_⟩
      have eL10 := kh10.st _ _ LM (s9 _ _ eL8)
      have kk := (kh07.trans kh8).trans (kh9.trans kh10)
      have n1 := hh0.hand.there L0
      have nr : L ≠ r := fun z => LM (.inr z)
      have dL10 := dps_keep (fun _ _ q => (kh9.trans kh10).tup q) _ _ (flat_encL _) dL8
      have lacc : acc.length ≤ 3 := by have := DpAll.len dL10; rw [encL_len] at this; omega
      refine ⟨L, acc, vl, rfl, rfl, eL10, Nat.lt_of_le_of_lt lacc (by decide), L, acc ++ [vl], ts ++ [lay], rfl, kk.mut L0, hh10.elim fun k' x => ⟨k', x.puts n1.1 n1.2 nr⟩, L0, upd_same, ?_, ⟨(gks_snoc gL (gl.mono (d' := 49) (by decide) (Nat.le_refl _)) (Nat.le_refl _)).al, ?_⟩, by rw [List.length_append]; exact Nat.succ_le_succ lL⟩
      · have put : ∀ {b : Addr} {ys : List V}, SqT K H10 b ys → SqT K (upd H10 L (.lst (acc ++ [vl]))) b ys := fun q => sqt_put eL10 q
        rw [encL_snoc]
        exact DpAll.snoc (dp_keep (fun _ _ q => put q) _ _ (flat_enc _) dl) (dps_keep (fun _ _ q => put q) _ _ (flat_encL _) dL10)
      · exact Nat.le_trans (gks_snoc gL (gl.mono (d' := 49) (by decide) (Nat.le_refl _)) (Nat.le_refl _)).sz (by decide)
    clear eL dL L0 gL kh07 hh7 lL
    rintro σ' H8 ⟨L, acc, ts, rfl, kh08, hh8, L0, eL, dL, gL, lL⟩
    refine tr_pure (fun _ => .int 0) hh8 True.intro rfl fun v6 H9 kh9 hh9 d6 => ?_
    have d6' : Dp K H9 v6 (pairT (.mk (.num 1) [])).enc := d6
    refine tr_pure (fun _ => (pairT (.mk (.num 1) [])).enc) hh9 (And.intro ⟨_, rfl, d6', flat_enc _⟩ True.intro) rfl fun v7 H10 kh10 hh10 d7 => ?_
    have LM : ¬ (L = h ∨ L = r) := kh08.m_of L0
    have kh810 := kh9.trans kh10
    have eL10 := kh810.st _ _ LM eL
    have dL10 := dps_keep (fun _ _ q => kh810.tup q) _ _ (flat_encL _) dL
    let rows : PyData := .tuple [.tuple [.str "k", (Tr.mk (.lit "none") []).enc], .tuple [.str "j", (Tr.mk (.lit "none") []).enc], .tuple [.str "n", (Tr.mk (.num 0) []).enc], .tuple [.str "p", (pairT (.mk (.num 1) [])).enc]]
    have frows : flatD rows = true := by show flatD (.tuple _) = true; simp [flatD, flatDs, flat_enc]
    refine ⟨h, c, r, fun _ => rows, fun _ d => d = .tuple (Tr.encL ts), hh10, And.intro ⟨_, rfl, d7, frows⟩ True.intro, And.intro (fun H11 kh11 hh11 => ?_) True.intro, fun v H11 τ kh11 hh11 als ft dp => ?_⟩
    · refine ⟨_, rfl, .inl ⟨L, acc, rfl, .inl (.inl (kh11.st _ _ LM eL10)), fun p hp => ?_⟩⟩
      have s12 := same_new (o := .tup acc) hp
      refine ⟨hh11.kp s12, hh11.same s12, _, rfl, flat_encL ts, .tup (.inl (.inl upd_same)) (dps_same s12 _ _ (dps_keep (fun _ _ q => kh11.tup q) _ _ (flat_encL _) dL10))⟩
    · obtain ⟨e1, _⟩ := als
      have dp' : Dp K H11 v (.tuple [.str "let", rows, .tuple [.str "do", τ 0]]) := dp
      rw [show τ 0 = .tuple (Tr.encL ts) from e1] at dp'
      have gdo : Gk 51 4201 (.mk .doo ts) := gk_do (d := 49) gL (by omega)
      have gp : Gk 2 3 (pairT (.mk (.num 1) [])) := gk_op (d := 0) (by decide +kernel) ((gk_num (by decide)).cons ((gk_lit (by decide)).cons Gks.nil))
      exact k v (.mk (.bind "let" ["k", "j", "n", "p"]) [.mk (.lit "none") [], .mk (.lit "none") [], .mk (.num 0) [], pairT (.mk (.num 1) []), .mk .doo ts]) H11 (base0 ((kh08.trans kh810).trans kh11)) hh11.hand dp'
        ((gk_let (d := 51) (all_cons wk' (all_cons wj (all_cons wn (all_cons wp all_nil)))) ((gk_lit (by decide)).cons ((gk_lit (by decide)).cons ((gk_num (by decide)).cons (gp.cons (gdo.cons Gks.nil)))))).mono (by decide) (by decide))
end
end K04

set_option linter.all false
/-! drawn trees of any kind: what is said of them is handed on -/
namespace Cm
open PySem L2 PySem.Spec PyProof.Rows
structure Gq (d : Nat) (t : Tr) : Prop where
  ok : t.ok
  nw : t.nw
  gd : t.gd
  ld : t.ld ≤ 8 + d
theorem Gq.mono {d d' : Nat} {t : Tr} (g : Gq d t) (h : d ≤ d') : Gq d' t := ⟨g.ok, g.nw, g.gd, by have := g.ld; omega⟩
theorem Gq.of {h : Hd} {ps : List Tr} {d d' : Nat} (al : ∀ t ∈ ps, Gq d t) (o : hok h ps.length) (gh : gH h) (nw : nwH h) (l : ps.length ≤ 11) (e : wk h + d ≤ d') : Gq d' (.mk h ps) :=
  ⟨⟨o, l, oks_iff.mpr fun t m => (al t m).ok⟩, ⟨nw, nws_iff.mpr fun t m => (al t m).nw⟩, gd_mk gh fun t m => (al t m).gd, ld_le.mpr ⟨by have := lo_8 h; omega, fun j t et => by
    have := (al t (List.mem_of_getElem? et)).ld
    have := lw_wk h j
    omega⟩⟩
theorem Gq.gk {d n : Nat} {t : Tr} (g : Gq d t) (h : t.size ≤ n) : Gk d n t := ⟨g.ok, g.nw, g.gd, g.ld, h⟩
theorem Gk.gq {d n : Nat} {t : Tr} (g : Gk d n t) : Gq d t := ⟨g.ok, g.nw, g.gd, g.ld⟩
theorem gq_one {d : Nat} {t : Tr} (g : Gq d t) : ∀ u ∈ [t], Gq d u := fun u m => by rw [List.mem_singleton.mp m]; exact g
theorem gq_snoc {d : Nat} {ts : List Tr} {t : Tr} (al : ∀ u ∈ ts, Gq d u) (g : Gq d t) : ∀ u ∈ ts ++ [t], Gq d u := fun u m => by
  rcases List.mem_append.mp m with m | m
  · exact al u m
  · rw [List.mem_singleton.mp m]; exact g
theorem gq_cons {d : Nat} {ts : List Tr} {t : Tr} (g : Gq d t) (al : ∀ u ∈ ts, Gq d u) : ∀ u ∈ t :: ts, Gq d u := fun u m => by
  rcases List.mem_cons.mp m with rfl | m
  · exact g
  · exact al u m
/-- a comprehension of drawn trees: F says how they lie in the list, E how one of them does -/
theorem lc_genP {K : PySem.W.Frag} {h c r : Addr} {k : Nat} {I : It} {n : Nat} {G : Hp → Prop} {Y : Nat → Hp → V → Hp → Prop} (wk : Walk I n G Y) {g : TG} {te : TE} {vs : List Nat} {σ : L2.St} {H1 : Hp} {D : Addr} {Qd : Hp → Prop}
    (F : List Tr → List PyData) (E : Nat → Tr → PyData) (Pt : Tr → Prop) (cost : Nat) (F0 : F [] = []) (FS : ∀ ts t, ts.length < n → F (ts ++ [t]) = F ts ++ [E ts.length t]) (Fl : ∀ ts, flatDs (F ts) = true)
    (x0 : Gn H1 h c r k) (hD : H1 D = Option.none) (hn : n ≤ 100000) (hG : ∀ H, Kr h r H1 H → G H)
    (hs : ∀ i x k1 H H', i < n → Kr h r H1 H → Gn H h c r k1 → Y i H x H' → ∀ Q1 : VK, (∀ v t k2 H4, Kr h r H H4 → Gn H4 h c r k2 → Dp K H4 v (E i t) → Pt t → t.size + 12 * k2 ≤ cost + 12 * k1 → Q1 v H4) →
      g x (wipe σ vs) H' fun σ2 H2 => wipe σ2 vs = wipe σ vs ∧ te σ2 H2 Q1)
    (hd : ∀ H acc ts k1, Kr h r H1 H → Gn H h c r k1 → H D = some (.lst acc) → DpAll K H acc (F ts) → ts.length = n → (∀ t ∈ ts, Pt t) → Tr.sizes ts + 12 * k1 ≤ cost * n + 12 * k → Qd H) :
    ∃ W : Nat → Nat → Hp → Prop, (∃ m, W 0 m (upd H1 D (.lst []))) ∧ ∀ i m H, W i m H →
      (I.stop i H ∧ Qd H) ∨ (I.go i H ∧ ∃ Nx : Hp → Prop, (∀ H', Nx H' → ∃ m', m' < m ∧ W (i + 1) m' H') ∧ ∀ x H', I.yld i H x H' → g x (wipe σ vs) H' fun σ2 H2 => wipe σ2 vs = wipe σ vs ∧ tYes σ2 H2 fun b H3 =>
        if b = true then te σ2 H3 fun y H4 => ∃ acc, H4 D = some (.lst acc) ∧ acc.length < sizeLine ∧ Nx (upd H4 D (.lst (acc ++ [y]))) else Nx H3) := by
  have nD := x0.hand.there hD
  have nDr : D ≠ r := (ne_of_none x0.rm hD).symm
  refine lc_drawJ (K := K) (M := fun a => a = h ∨ a = r) wk (fun i ds H => ∃ ts k1, ds = F ts ∧ Gn H h c r k1 ∧ ts.length = i ∧ (∀ t ∈ ts, Pt t) ∧ Tr.sizes ts + 12 * k1 ≤ cost * i + 12 * k) x0.lists
    ⟨[], k, F0.symm, (x0.same (same_new hD)).1, rfl, (fun _ m => by cases m), (by show 0 + 12 * k ≤ cost * 0 + 12 * k; omega)⟩ (fun i ds H ys _ j => ?_) hD hn (fun _ _ H kk _ => hG H kk) (fun i ds H j => ?_) ?_ ?_
  · obtain ⟨ts, k1, a1, a2, a3⟩ := j
    exact ⟨ts, k1, a1, a2.puts nD.1 nD.2 nDr, a3⟩
  · obtain ⟨ts, k1, rfl, _⟩ := j
    exact Fl ts
  · rintro i x ds H H' hi kk ⟨ts, k1, rfl, a2, a3, a4, a5⟩ y Q1 Q0 q1 q0
    refine hs i x k1 H H' hi kk a2 y Q1 fun v t k2 H4 k4 x4 hv ok sz => ?_
    refine q1 v H4 (E i t) k4 ⟨ts ++ [t], k2, ?_, x4, ?_, ?_, ?_⟩ hv
    · rw [FS ts t (by omega), a3]
    · rw [List.length_append, a3]; rfl
    · intro u hu
      rcases List.mem_append.mp hu with hu | hu
      · exact a4 u hu
      · cases List.mem_singleton.mp hu
        exact ok
    · rw [sizes_snoc, Nat.mul_succ]
      omega
  · rintro H acc ds kk ⟨ts, k1, rfl, a2, a3, a4, a5⟩ hacc ha
    exact hd H acc ts k1 kk a2 hacc ha a3 a4 a5
end Cm

namespace K04
open PySem L2 Cm
def spLeaf (K : PySem.W.Frag) : Sp := fun vs H Q _ => ∃ (h c nm : Addr) (names : List Str), vs = [.ref h, .ref nm] ∧ Hand H h c ∧ SqT K H nm (names.map V.str) ∧ names ≠ [] ∧ names.length ≤ 10 ∧ (∀ x ∈ names, gw x) ∧
  ∀ (v : V) (t : Tr) (H' : Hp), Kh h H H' → Hand H' h c → Dp K H' v t.enc → Gq 0 t → t.size ≤ 1 → Q v H'
section
variable {P : Program} {w : World} {K : PySem.W.Frag} {mg : Str → Option Value} {base : Heap}
abbrev s_l_any_leaf : Stmt := top 29
abbrev N_l_any_leaf : List Str := ["_law_hand_here", "_law_names", "_law_pick_here", "_law_number"]
theorem sc_l_any_leaf : FnScope N_l_any_leaf ["_law_hand_here", "_law_names"] (defScope s_l_any_leaf) := ⟨rfl, rfl, rfl, by decide +kernel, rfl, by decide +kernel, by decide +kernel⟩
theorem ok_any_leaf (c_l_draw : Cl P w K mg base 2 "_law_draw" spDraw) (c_l_pick : Cl P w K mg base 3 "_law_pick" (spPick K)) (D : At K mg "_law_any_leaf" s_l_any_leaf ["_law_hand_here", "_law_names"]) :
    Cl P w K mg base 4 "_law_any_leaf" (spLeaf K) := by
  refine cl_of D sc_l_any_leaf (fun vs H Q E h => ?_) fun f cdv A outer s H vs Q E hr h => ?_
  · obtain ⟨h, c, nm, names, rfl, _⟩ := h
    rfl
  · obtain ⟨h, c, nm, names, rfl, hh, hn, hne, hnl, hso, k⟩ := h
    refine ⟨_, (pss_cons (ps_set (i := 2) sc_l_any_leaf.nd rfl (Or.inl rfl) (pe_c c_l_draw hr (by decide) (by rfl) (pa_cons (pv 0) (pa_cons pe_int pa_nil))))
      (pss_cons (ps_if (pt_cmpR op_lt (pv 2) pe_int (nomark _))
        (pss_one (ps_ret (pe_tup (pa_cons pe_str (pa_cons (pe_c c_l_pick hr (by decide) (by rfl) (pa_cons (pv 0) (pa_cons (pv 1) pa_nil))) pa_nil)))))
        pss_nil)
      (pss_cons (ps_if (pt_cmpR op_lt (pv 2) pe_int (nomark _))
        (pss_mid (ps_set (i := 3) sc_l_any_leaf.nd rfl (Or.inl rfl) (pe_ix ix_tup (pe_tup (pa_cons pe_int (pa_cons (pe_op op_pow pe_int pe_int) (pa_cons (pe_c c_l_draw hr (by decide) (by rfl) (pa_cons (pv 0) (pa_cons pe_int pa_nil))) (pa_cons (pe_c c_l_draw hr (by decide) (by rfl) (pa_cons (pv 0) (pa_cons (pe_op op_add (pe_op op_pow pe_int pe_int) pe_int) pa_nil))) pa_nil))))) (pe_c c_l_draw hr (by decide) (by rfl) (pa_cons (pv 0) (pa_cons pe_int pa_nil))) (fun _ _ => rfl)))
        (pss_one (ps_ret (pe_tup (pa_cons pe_str (pa_cons (pe_ifExp (pt_cmpR op_eq (pe_c c_l_draw hr (by decide) (by rfl) (pa_cons (pv 0) (pa_cons pe_int pa_nil))) pe_int (nomark _)) (pe_un un_neg (pv 3)) (pv 3)) pa_nil))))))
        pss_nil)
      (pss_one (ps_ret (pe_ix ix_tup (pe_ix ix_tup (pe_tup (pa_cons (pe_tup (pa_cons (pe_tup (pa_cons pe_str pa_nil)) (pa_cons (pe_tup (pa_cons pe_str pa_nil)) (pa_cons (pe_tup (pa_cons pe_str pa_nil)) pa_nil)))) (pa_cons (pe_tup (pa_cons (pe_tup (pa_cons pe_str pa_nil)) (pa_cons (pe_tup (pa_cons pe_str pa_nil)) (pa_cons (pe_tup (pa_cons pe_str pa_nil)) pa_nil)))) pa_nil))) (pe_c c_l_draw hr (by decide) (by rfl) (pa_cons (pv 0) (pa_cons pe_int pa_nil))) (fun _ _ => rfl)) (pe_op op_sub (pv 2) pe_int) (fun _ _ => rfl))))))), ?_⟩
    refine ⟨_, rfl, h, c, _, rfl, hh, by decide, by decide, fun n H1 n0 n1 k1 hh1 => ?_⟩
    refine ⟨_, rfl, _, _, rfl, rfl, _, rfl, ?_⟩
    refine ite2 (fun _ => ?_) (fun q3 => ?_)
    · refine ⟨_, rfl, _, rfl, h, c, nm, _, rfl, hh1, .inr (k1.tup hn), ?_, by rw [List.length_map]; omega, fun v H2 hv k2 hh2 => ?_⟩
      · intro e
        exact hne (List.map_eq_nil_iff.mp e)
      obtain ⟨x, hx, rfl⟩ := List.mem_map.mp hv
      refine ⟨by show 2 ≤ sizeLine; decide, fun t ht => ?_⟩
      have s3 := same_new (o := .tup [.str "name", .str x]) ht
      exact k _ (.mk (.name x) []) _ ((k1.trans k2).trans (hh2.kh s3)) (hh2.same s3) (unview (ds := []) (h := .name x) (.inl (.inl upd_same)) rfl) (gk_name (hso x hx)).gq (Nat.le_refl _)
    refine ⟨_, rfl, _, _, rfl, rfl, _, rfl, ?_⟩
    refine ite2 (fun _ => ?_) (fun q6 => ?_)
    · refine ⟨fun σ' H' => ∃ m : Int, σ' = [some (.ref h), some (.ref nm), some (.int n), some (.int m)] ∧ m.natAbs ≤ 1000000000 ∧ Kh h H H' ∧ Hand H' h c, ?_, ?_⟩
      · refine ⟨_, _, rfl, rfl, ⟨by decide, by decide, by decide⟩, ?_⟩
        refine ⟨_, rfl, h, c, _, rfl, hh1, by decide, by decide, fun a2 H2 q20 q21 k2 hh2 => ?_⟩
        refine ⟨_, rfl, _, _, rfl, rfl, ⟨by decide, by decide, by decide⟩, _, _, rfl, rfl, h, c, _, rfl, hh2, by decide, by decide, fun a3 H3 q30 q31 k3 hh3 => ?_⟩
        refine ⟨by show 4 ≤ sizeLine; decide, fun t ht => ?_⟩
        have s4 := same_new (o := .tup [.int 0, .int ((10 : Int) ^ (9 : Int).toNat), .int a2, .int a3]) ht
        refine ⟨_, rfl, h, c, _, rfl, hh3.same s4, by decide, by decide, fun j H5 j0 j1 k5 hh5 => ?_⟩
        have p9 : ((10 : Int) ^ (9 : Int).toNat) = 1000000000 := by decide
        have hall : ∃ m : Int, m.natAbs ≤ 1000000000 ∧ atI [V.int 0, V.int ((10 : Int) ^ (9 : Int).toNat), .int a2, .int a3] j = some (.int m) := by
          have : j = 0 ∨ j = 1 ∨ j = 2 ∨ j = 3 := by omega
          rcases this with rfl | rfl | rfl | rfl
          · exact ⟨_, by decide, atI_nat (j := 0) rfl⟩
          · exact ⟨_, by rw [p9]; decide, atI_nat (j := 1) rfl⟩
          · exact ⟨_, by omega, atI_nat (j := 2) rfl⟩
          · exact ⟨_, by rw [p9] at q31; omega, atI_nat (j := 3) rfl⟩
        obtain ⟨m, hm, em⟩ := hall
        exact ⟨t, _, _, _, rfl, rfl, k5.tup (.inl (.inl upd_same)), em, m, rfl, hm, (((k1.trans k2).trans k3).trans (hh3.kh s4)).trans k5, hh5⟩
      · rintro σ' H2 ⟨m, rfl, hm, k2, hh2⟩
        refine ⟨_, rfl, h, c, _, rfl, hh2, by decide, by decide, fun j H3 _ _ k3 hh3 => ?_⟩
        refine ⟨rfl, _, rfl, ?_⟩
        have fin : ∀ i : Int, i.natAbs ≤ 1000000000 → 2 ≤ sizeLine ∧ ∀ p, H3 p = none → Q (.ref p) (upd H3 p (.tup [.str "number", .int i])) := fun i hi => ⟨by decide, fun t ht => (by
          have s4 := same_new (o := .tup [.str "number", .int i]) ht
          exact k _ (.mk (.num i) []) _ ((k2.trans k3).trans (hh3.kh s4)) (hh3.same s4) (unview (ds := []) (h := .num i) (.inl (.inl upd_same)) rfl) (gk_num hi).gq (Nat.le_refl _))⟩
        refine ite2 (fun _ => ?_) (fun _ => ?_)
        · exact ⟨_, rfl, _, rfl, fin _ (by omega)⟩
        · exact ⟨_, rfl, fin _ hm⟩
    · have c3 : (n = 6 ∨ n = 7 ∨ n = 8) := by
        have : ¬ n < 6 := fun z => q6 (decide_eq_true z)
        omega
      refine ⟨by show 1 ≤ sizeLine; decide, fun t1 ht1 => ⟨by show 1 ≤ sizeLine; decide, fun t2 ht2 => ⟨by show 1 ≤ sizeLine; decide, fun t3 ht3 => ⟨by show 3 ≤ sizeLine; decide, fun t4 ht4 =>
        ⟨by show 1 ≤ sizeLine; decide, fun t5 ht5 => ⟨by show 1 ≤ sizeLine; decide, fun t6 ht6 => ⟨by show 1 ≤ sizeLine; decide, fun t7 ht7 => ⟨by show 3 ≤ sizeLine; decide, fun t8 ht8 => ⟨by show 2 ≤ sizeLine; decide, fun t9 ht9 => ?_⟩⟩⟩⟩⟩⟩⟩⟩⟩
      have u1 := same_new (o := .tup [.str "true"]) ht1
      have u2 := same_new (o := .tup [.str "false"]) ht2
      have u3 := same_new (o := .tup [.str "none"]) ht3
      have u4 := same_new (o := .tup [.ref t1, .ref t2, .ref t3]) ht4
      have u5 := same_new (o := .tup [.str "ask"]) ht5
      have u6 := same_new (o := .tup [.str "none"]) ht6
      have u7 := same_new (o := .tup [.str "true"]) ht7
      have u8 := same_new (o := .tup [.ref t5, .ref t6, .ref t7]) ht8
      have u9 := same_new (o := .tup [.ref t4, .ref t8]) ht9
      have v8 := u9
      have v7 := u8.trans v8
      have v6 := u7.trans v7
      have v5 := u6.trans v6
      have v4 := u5.trans v5
      have v3 := u4.trans v4
      have v2 := u3.trans v3
      have v1 := u2.trans v2
      have S9 := u1.trans v1
      have e1 := v1 _ _ upd_same
      have e2 := v2 _ _ upd_same
      have e3 := v3 _ _ upd_same
      have e4 := v4 _ _ upd_same
      have e5 := v5 _ _ upd_same
      have e6 := v6 _ _ upd_same
      have e7 := v7 _ _ upd_same
      have e8 := v8 _ _ upd_same
      have hh9 := hh1.same S9
      have k9 := k1.trans (hh1.kh S9)
      have e9 : (upd _ t9 (.tup [.ref t4, .ref t8])) t9 = some (.tup [.ref t4, .ref t8]) := upd_same (H := upd (upd (upd (upd (upd (upd (upd (upd H1 t1 (.tup [.str "true"])) t2 (.tup [.str "false"])) t3 (.tup [.str "none"])) t4 (.tup [.ref t1, .ref t2, .ref t3])) t5 (.tup [.str "ask"])) t6 (.tup [.str "none"])) t7 (.tup [.str "true"])) t8 (.tup [.ref t5, .ref t6, .ref t7]))
      clear u1 u2 u3 u4 u5 u6 u7 u8 u9 v1 v2 v3 v4 v5 v6 v7 v8 S9
      generalize upd (upd (upd (upd (upd (upd (upd (upd (upd H1 t1 (.tup [.str "true"])) t2 (.tup [.str "false"])) t3 (.tup [.str "none"])) t4 (.tup [.ref t1, .ref t2, .ref t3])) t5 (.tup [.str "ask"])) t6 (.tup [.str "none"])) t7 (.tup [.str "true"])) t8 (.tup [.ref t5, .ref t6, .ref t7])) t9 (.tup [.ref t4, .ref t8]) = H9 at *
      refine ⟨_, rfl, h, c, _, rfl, hh9, by decide, by decide, fun j HA j0 j1 kA hhA => ?_⟩
      have tp : ∀ {a : Addr} {xs : List V}, H9 a = some (.tup xs) → SqT K HA a xs := fun e => kA.tup (.inl (.inl e))
      have fin : ∀ (a : Addr) (w : Str), SqT K HA a [.str w] → w ∈ litW → Q (.ref a) HA := fun a w hs hw =>
        k _ (.mk (.lit w) []) _ (k9.trans kA) hhA (unview (ds := []) (h := .lit w) hs rfl) (gk_lit hw).gq (Nat.le_refl _)
      have hj : j = 0 ∨ j = 1 := by omega
      rcases hj with rfl | rfl
      · refine ⟨t9, _, _, _, rfl, rfl, tp e9, atI_nat (j := 0) rfl, _, rfl, _, _, rfl, rfl, ?_⟩
        rcases c3 with rfl | rfl | rfl
        · exact ⟨t4, _, _, _, rfl, rfl, tp e4, atI_nat (j := 0) rfl, fin t1 _ (tp e1) (by decide +kernel)⟩
        · exact ⟨t4, _, _, _, rfl, rfl, tp e4, atI_nat (j := 1) rfl, fin t2 _ (tp e2) (by decide +kernel)⟩
        · exact ⟨t4, _, _, _, rfl, rfl, tp e4, atI_nat (j := 2) rfl, fin t3 _ (tp e3) (by decide +kernel)⟩
      · refine ⟨t9, _, _, _, rfl, rfl, tp e9, atI_nat (j := 1) rfl, _, rfl, _, _, rfl, rfl, ?_⟩
        rcases c3 with rfl | rfl | rfl
        · exact ⟨t8, _, _, _, rfl, rfl, tp e8, atI_nat (j := 0) rfl, fin t5 _ (tp e5) (by decide +kernel)⟩
        · exact ⟨t8, _, _, _, rfl, rfl, tp e8, atI_nat (j := 1) rfl, fin t6 _ (tp e6) (by decide +kernel)⟩
        · exact ⟨t8, _, _, _, rfl, rfl, tp e8, atI_nat (j := 2) rfl, fin t7 _ (tp e7) (by decide +kernel)⟩
end
end K04

namespace K04
open PySem L2 Cm
def spNames (K : PySem.W.Frag) : Sp := fun vs H Q _ => ∃ (h c nm : Addr) (names : List Str) (most : Int), vs = [.ref h, .ref nm, .int most] ∧ Hand H h c ∧ SqT K H nm (names.map V.str) ∧ names.length ≤ 10 ∧ 0 ≤ most ∧ most ≤ 20 ∧
  ∀ (r : Addr) (xs : List Str) (H' : Hp), Kh h H H' → Hand H' h c → SqT K H' r (xs.map V.str) → (xs.length : Int) ≤ most → (∀ x ∈ xs, x ∈ names) → Q (.ref r) H'
theorem ixn_at {n m : Nat} (h : m < n) : ixN n ((m : Nat) : Int) = some m := by
  unfold ixN
  have h1 : ((m : Nat) : Int) < (n : Int) := by omega
  simp [h1]
  try omega
theorem map_erase {α β : Type} (f : α → β) : ∀ (xs : List α) (j : Nat), (xs.map f).eraseIdx j = (xs.eraseIdx j).map f
  | [], _ => rfl
  | _ :: _, 0 => rfl
  | x :: xs, j + 1 => by
    show f x :: (xs.map f).eraseIdx j = f x :: (xs.eraseIdx j).map f
    rw [map_erase f xs j]
theorem all_strs {K : PySem.W.Frag} {H : Hp} {P : Str → Prop} : ∀ {acc : List V} {ds : List PyData}, DpAll K H acc ds → (∀ d ∈ ds, ∃ x : Str, d = .str x ∧ P x) → ∃ xs : List Str, acc = xs.map V.str ∧ ds = xs.map PyData.str ∧ ∀ x ∈ xs, P x
  | _, _, .nil, _ => ⟨[], rfl, rfl, fun _ h => by cases h⟩
  | _, _, .cons a t, g => by
    obtain ⟨b, rfl, hb⟩ := g _ List.mem_cons_self
    obtain ⟨xs, rfl, rfl, hf⟩ := all_strs t fun d hd => g d (List.mem_cons_of_mem _ hd)
    cases a
    exact ⟨b :: xs, rfl, rfl, fun x hx => by
      rcases List.mem_cons.mp hx with rfl | hx
      · exact hb
      · exact hf x hx⟩
section
variable {P : Program} {w : World} {K : PySem.W.Frag} {mg : Str → Option Value} {base : Heap}
abbrev s_l_any_names : Stmt := top 30
abbrev N_l_any_names : List Str := ["_law_hand_here", "_law_names", "_law_most", "_law_left", "_law_name", "_law_many", "_law_k"]
theorem sc_l_any_names : FnScope N_l_any_names ["_law_hand_here", "_law_names", "_law_most"] (defScope s_l_any_names) := ⟨rfl, rfl, rfl, by decide +kernel, rfl, by decide +kernel, by decide +kernel⟩
theorem ok_any_names (T : Txt mg) (c_l_draw : Cl P w K mg base 2 "_law_draw" spDraw) (D : At K mg "_law_any_names" s_l_any_names ["_law_hand_here", "_law_names", "_law_most"]) : Cl P w K mg base 3 "_law_any_names" (spNames K) := by
  refine cl_of D sc_l_any_names (fun vs H Q E h => ?_) fun f cdv A outer s H vs Q E hr h => ?_
  · obtain ⟨h, c, nm, names, most, rfl, _⟩ := h
    rfl
  · obtain ⟨h, c, nm, names, most, rfl, hh, hn, hnl, hm0, hm1, k⟩ := h
    refine ⟨_, (pss_cons (ps_set (i := 3) sc_l_any_names.nd rfl (Or.inr rfl) (pe_lst pa_nil))
      (pss_cons (ps_for PassesOwn.never rfl (pi_tup (pv 1)) (pg_name (i := 4) sc_l_any_names.nd rfl (Or.inl rfl))
        (pss_one (ps_if (pt_cmpR op_notIn_seq (pv 4) (pv 3) (by rfl))
          (pss_one (ps_expr (pe_bm PySem.F.plainAttrs_list PySem.F.slot_list_append PySem.F.type_list_append mt_append (pv 3) (pa_cons (pv 4) pa_nil))))
          pss_nil)))
      (pss_cons (ps_set (i := 5) sc_l_any_names.nd rfl (Or.inl rfl) (pe_callB (call_min2 rfl) (by rfl) T.min (by decide +kernel) (pa_cons (pe_c c_l_draw hr (by decide) (by rfl) (pa_cons (pv 0) (pa_cons (pe_op op_add (pv 2) pe_int) pa_nil))) (pa_cons (pe_callB call_len_seq (by rfl) T.len (by decide +kernel) (pa_cons (pv 3) pa_nil)) pa_nil))))
      (pss_one (ps_ret (pe_tupleOf (by rfl) T.tuple (pe_lc (own := [("_law_k", 6)]) rfl sc_l_any_names.nd (pi_range1 (by rfl) T.range (pa_cons (pv 5) pa_nil)) (blkOk_by (N := N_l_any_names) (sc := defScope s_l_any_names) (by decide +kernel))
      (fun _ _ _ _ _ => (pg_name (i := 6) sc_l_any_names.nd rfl (Or.inl rfl)))
      (fun _ _ _ _ _ => pts_nil)
      (fun _ _ _ _ _ => (ke_bm (K := K) PySem.F.plainAttrs_list PySem.F.slot_list_pop PySem.F.type_list_pop mt_popAt (pv 3) (pa_cons (pe_c c_l_draw hr (by decide) (by rfl) (pa_cons (pv 0) (pa_cons (pe_callB (kc_len (K := K)) (by rfl) T.len (by decide +kernel) (pa_cons (pv 3) pa_nil)) pa_nil))) pa_nil)))))))))), ?_⟩
    refine ⟨by show 0 ≤ sizeLine; decide, fun L hL => ?_⟩
    have s0 := same_new (o := .lst []) hL
    have hh0 := hh.same s0
    have nL := hh.there hL
    refine ⟨_, rfl, nm, rfl, ⟨_, sqt_same s0 hn⟩, ?_⟩
    refine for_it (walk_tup (xs := names.map V.str)) (fun i σ H' => ∃ (ls : List Str) (v4 : Option V), σ = [some (.ref h), some (.ref nm), some (.int most), some (.ref L), v4, none, none] ∧ Same H H' ∧ H' L = some (.lst (ls.map V.str)) ∧ (∀ x ∈ ls, x ∈ names) ∧ ls.length ≤ i)
      ⟨[], none, rfl, s0, upd_same, fun _ h => (by cases h), Nat.le_refl _⟩ (fun i σ H' _ z => ?_) ?_ ?_
    · obtain ⟨_, _, _, z, _⟩ := z
      exact sqt_same z hn
    · rintro i x σ H1 H2 hi ⟨ls, v4, rfl, s1, hL1, hls, hll⟩ ⟨rfl, e2⟩
      obtain ⟨y, ey, rfl⟩ := map_at e2
      rw [List.length_map] at hi
      refine ⟨_, rfl, _, rfl, L, _, rfl, .inl (.inl (.inl hL1)), rfl, flat_strV ls, _, rfl, ?_⟩
      refine ite2 (fun _ => ?_) (fun _ => ⟨ls, _, rfl, s1, hL1, hls, by omega⟩)
      refine ⟨_, rfl, .inl ⟨rfl, _, .inl (.inl hL1)⟩, _, rfl, L, _, _, rfl, rfl, hL1, ?_, ls ++ [y], _, rfl, same_put s1 hL, ?_, ?_, ?_⟩
      · rw [List.length_map]
        exact Nat.lt_of_le_of_lt (show ls.length ≤ 10 by omega) (by decide)
      · rw [upd_same, List.map_append]
        rfl
      · intro x hx
        rcases List.mem_append.mp hx with hx | hx
        · exact hls x hx
        · cases List.mem_singleton.mp hx
          exact List.mem_of_getElem? ey
      · rw [List.length_append]
        exact Nat.succ_le_succ hll
    · rintro σ H1 ⟨ls, v4, rfl, s1, hL1, hls, hll⟩
      rw [List.length_map] at hll
      have hh1 := hh.same s1
      refine ⟨_, rfl, _, rfl, _, _, rfl, rfl, h, c, _, rfl, hh1, by omega, Int.lt_of_le_of_lt (show most + 1 ≤ 21 by omega) (by decide), fun m H2 m0 m1 k2 hh2 => ?_⟩
      have hL2 : H2 L = some (.lst (ls.map V.str)) := k2.st _ _ nL.1 hL1
      refine ⟨_, rfl, L, _, rfl, .inl (.inl (.inl hL2)), _, _, rfl, ?_⟩
      rw [List.length_map]
      show gName 5 (V.int (if ((ls.length : Nat) : Int) < m then ((ls.length : Nat) : Int) else m)) _ _ _
      have hmm : ∃ mm : Nat, (if ((ls.length : Nat) : Int) < m then ((ls.length : Nat) : Int) else m) = (mm : Int) ∧ mm ≤ ls.length ∧ (mm : Int) ≤ most := by
        split
        · exact ⟨ls.length, rfl, Nat.le_refl _, by omega⟩
        · exact ⟨m.toNat, by omega, by omega, by omega⟩
      obtain ⟨mm, em, h1, h2⟩ := hmm
      rw [em]
      refine ⟨_, rfl, _, rfl, by omega, by omega, fun D hD => ?_⟩
      have nD := hh2.there hD
      have nDL : L ≠ D := ne_of_none hL2 hD
      have K2 : Kp (fun a => a = h ∨ a = L) H2 H2 := Kp.refl fun a ha => by
        rcases ha with rfl | rfl
        · exact hh2.lst
        · exact ⟨_, hL2⟩
      refine lc_drawJ (K := K) (M := fun a => a = h ∨ a = L) (walk_range (lo := 0) (n := mm)) (fun i ds H' => Hand H' h c ∧ ∃ ls' : List Str, H' L = some (.lst (ls'.map V.str)) ∧ (∀ x ∈ ls', x ∈ names) ∧ ls'.length + i = ls.length ∧ ds.length = i ∧ ∀ d ∈ ds, ∃ x : Str, d = .str x ∧ x ∈ names)
        K2.l1 ⟨hh2.same (same_new hD), ls, (same_new hD) _ _ hL2, hls, rfl, rfl, fun _ h => (by cases h)⟩ (fun i ds H' ys kk j => ?_) hD (by omega) (fun _ _ _ _ _ => trivial) (fun i ds H' j => ?_) ?_ ?_
      · obtain ⟨a, ls', b1, b2, b3, b4, b5⟩ := j
        exact ⟨a.puts nD.1 nD.2, ls', by rw [upd_ne nDL]; exact b1, b2, b3, b4, b5⟩
      · obtain ⟨_, _, _, _, _, _, b5⟩ := j
        exact flatDs_of _ fun d hd => by
          obtain ⟨x, rfl, _⟩ := b5 d hd
          rfl
      · rintro i x ds H3 H4 hi k3 ⟨hh3, ls', hL3, b2, b3, b4, b5⟩ ⟨rfl, rfl⟩ Q1 Q0 q1 q0
        refine ⟨rfl, ?_⟩
        have hpos : 0 < ls'.length := by omega
        refine ⟨_, rfl, .inl ⟨rfl, _, .inl (.inl hL3)⟩, _, rfl, _, rfl, L, _, rfl, .inl (.inl (.inl hL3)), h, c, _, rfl, hh3, by rw [List.length_map]; omega, ?_, fun j H5 j0 j1 k5 hh5 => ?_⟩
        · rw [List.length_map]
          exact Int.lt_of_le_of_lt (show (ls'.length : Int) ≤ 10 by omega) (by decide)
        rw [List.length_map] at j1
        obtain ⟨jj, rfl⟩ : ∃ jj : Nat, j = (jj : Int) := ⟨j.toNat, by omega⟩
        have hjj : jj < ls'.length := by omega
        have hL5 : H5 L = some (.lst (ls'.map V.str)) := k5.st _ _ nL.1 hL3
        refine ⟨L, _, _, jj, .str ls'[jj], rfl, rfl, hL5, by omega, by omega, ?_, ?_, ?_⟩
        · rw [List.length_map]
          exact (ixN_seq (ixn_at hjj)).1
        · rw [List.getElem?_map, List.getElem?_eq_getElem hjj]
          rfl
        have kp : Kp (fun a => a = h ∨ a = L) H4 (upd H5 L (.lst ((ls'.map V.str).eraseIdx jj))) := by
          have w1 : Kp (fun a => a = h ∨ a = L) H4 H5 := k5.wider (fun a ha => .inl ha) fun a ha => by
            rcases ha with rfl | rfl
            · exact hh3.lst
            · exact ⟨_, hL3⟩
          exact w1.trans (Kp.put w1.l2 (.inr rfl))
        refine q1 _ _ (.str ls'[jj]) kp ⟨hh5.puts nL.1 nL.2, ls'.eraseIdx jj, ?_, fun x hx => b2 x (List.mem_of_mem_eraseIdx hx), ?_, ?_, ?_⟩ (.str _)
        · rw [upd_same, map_erase]
        · rw [List.length_eraseIdx_of_lt hjj]
          omega
        · rw [List.length_append, List.length_singleton, b4]
        · intro d hd
          rcases List.mem_append.mp hd with hd | hd
          · exact b5 d hd
          · cases List.mem_singleton.mp hd
            exact ⟨_, rfl, b2 _ (List.getElem_mem hjj)⟩
      · rintro H3 acc ds k3 ⟨hh3, ls', hL3, b2, b3, b4, b5⟩ hacc ha
        obtain ⟨xs, rfl, rfl, hx⟩ := all_strs ha b5
        refine .inl ⟨D, _, rfl, .inl (.inl hacc), fun t ht => ?_⟩
        have kall : Kh h H H3 := by
          have k02 : Kh h H H2 := (hh.kh s1).trans k2
          refine ⟨fun b o nb e => ?_, k02.l1, fun b hb => by subst hb; exact hh3.lst⟩
          have nbL : b ≠ L := ne_of_none e hL
          refine k3.st _ _ (fun z => ?_) (k02.st _ _ nb e)
          rcases z with z | z
          · exact nb z
          · exact nbL z
        refine k t xs _ (kall.trans (hh3.kh (same_new ht))) (hh3.same (same_new ht)) (.inl (.inl upd_same)) ?_ hx
        rw [List.length_map] at b4
        omega
end
end K04

namespace K04
open PySem L2 Cm
/-- a tree is drawn, less than n deep -/
def spAny (K : PySem.W.Frag) (n : Nat) : Sp := fun vs H Q _ => ∃ (h c nm r : Addr) (names : List Str) (k deep : Nat), vs = [.ref h, .int (deep : Nat), .ref nm, .ref r] ∧ Gn H h c r k ∧ SqT K H nm (names.map V.str) ∧ names ≠ [] ∧ names.length ≤ 10 ∧ (∀ x ∈ names, gw x) ∧ deep < n ∧
  ∀ (v : V) (t : Tr) (k' : Nat) (H' : Hp), Kr h r H H' → Gn H' h c r k' → Dp K H' v t.enc → Gq (8 * deep) t → t.size + 12 * k' ≤ 1 + 12 * k → Q v H'
def spFun (K : PySem.W.Frag) (n : Nat) : Sp := fun vs H Q _ => ∃ (h c nm r : Addr) (names : List Str) (k deep : Nat) (most : Int), vs = [.ref h, .int ((deep + 1 : Nat) : Int), .ref nm, .ref r, .int most] ∧ Gn H h c r k ∧ SqT K H nm (names.map V.str) ∧ names ≠ [] ∧ names.length ≤ 10 ∧ (∀ x ∈ names, gw x) ∧ deep < n ∧ 0 ≤ most ∧ most ≤ 10 ∧
  ∀ (v : V) (t : Tr) (k' : Nat) (H' : Hp), Kr h r H H' → Gn H' h c r k' → Dp K H' v t.enc → Gq (2 + 8 * deep) t → t.size + 12 * k' ≤ 2 + 12 * k → Q v H'
theorem iteEq {x y : Str} {A B : Prop} (h : x = y) (a : A) : if decide (V.str x = V.str y) = true then A else B := by
  rw [decS, decide_eq_true h]
  exact iteT a
theorem iteNe {x y : Str} {A B : Prop} (h : ¬ x = y) (b : B) : if decide (V.str x = V.str y) = true then A else B := by
  rw [decS, decide_eq_false h]
  exact iteF b
theorem iteIn {x : Str} {ws : List Str} {A B : Prop} (h : x ∈ ws) (a : A) : if inV (.str x) (ws.map V.str) = true then A else B := by
  rw [in_words, decide_eq_true h]
  exact iteT a
theorem iteNi {x : Str} {ws : List Str} {A B : Prop} (h : ¬ x ∈ ws) (b : B) : if inV (.str x) (ws.map V.str) = true then A else B := by
  rw [in_words, decide_eq_false h]
  exact iteF b
theorem zip_end {xs : List Str} {ts : List Tr} {t : Tr} (h : ts.length = xs.length) : (xs.zip (Tr.encL (ts ++ [t]))).map rowD = rowsL xs ts ∧ (Tr.encL (ts ++ [t])).drop xs.length = [t.enc] := by
  rw [encL_snoc]
  have hl : (Tr.encL ts).length = xs.length := by rw [encL_len, h]
  refine ⟨?_, ?_⟩
  · unfold rowsL
    congr 1
    have e : xs = xs ++ [] := (List.append_nil xs).symm
    conv => lhs; rw [e]
    rw [List.zip_append hl.symm]
    simp
  · rw [List.drop_append, hl, Nat.sub_self, List.drop_of_length_le (Nat.le_of_eq hl)]
    rfl
section
variable {P : Program} {w : World} {K : PySem.W.Frag} {mg : Str → Option Value} {base : Heap}
abbrev s_l_any_fun : Stmt := top 31
abbrev N_l_any_fun : List Str := ["_law_hand_here", "_law_deep", "_law_names", "_law_room", "_law_most", "_law_handed"]
theorem sc_l_any_fun : FnScope N_l_any_fun ["_law_hand_here", "_law_deep", "_law_names", "_law_room", "_law_most"] (defScope s_l_any_fun) := ⟨rfl, rfl, rfl, by decide +kernel, rfl, by decide +kernel, by decide +kernel⟩
theorem ok_any_fun {n lv : Nat} (hlv : 3 ≤ lv) (c_l_any_names : Cl P w K mg base 3 "_law_any_names" (spNames K)) (c_l_any : Cl P w K mg base lv "_law_any" (spAny K n)) (D : At K mg "_law_any_fun" s_l_any_fun ["_law_hand_here", "_law_deep", "_law_names", "_law_room", "_law_most"]) :
    Cl P w K mg base (lv + 1) "_law_any_fun" (spFun K n) := by
  refine cl_of D sc_l_any_fun (fun vs H Q E h => ?_) fun f cdv A outer s H vs Q E hr h => ?_
  · obtain ⟨h, c, nm, r, names, k, deep, most, rfl, _⟩ := h
    rfl
  · obtain ⟨h, c, nm, r, names, k, deep, most, rfl, x, hn, hne, hnl, hso, hdn, hm0, hm1, q⟩ := h
    refine ⟨_, (pss_cons (ps_set (i := 5) sc_l_any_fun.nd rfl (Or.inl rfl) (pe_c c_l_any_names hr hlv (by rfl) (pa_cons (pv 0) (pa_cons (pv 2) (pa_cons (pv 4) pa_nil)))))
      (pss_one (ps_ret (pe_tup (pa_cons pe_str (pa_cons (pv 5) (pa_cons (pe_c c_l_any hr (Nat.le_refl _) (by rfl) (pa_cons (pv 0) (pa_cons (pe_op op_sub (pv 1) pe_int) (pa_cons (pv 2) (pa_cons (pv 3) pa_nil))))) pa_nil))))))), ?_⟩
    refine ⟨_, rfl, _, rfl, _, rfl, h, c, nm, names, most, rfl, x.hand, hn, hnl, hm0, (by omega), fun rx xs H1 kh hh1 hrx hxl hxs => ?_⟩
    obtain ⟨x1, kr1⟩ := x.draw kh hh1
    refine ⟨_, rfl, _, rfl, _, rfl, _, _, rfl, rfl, _, rfl, _, rfl, h, c, nm, r, names, k, deep, ?_, x1, kr1.tup hn, hne, hnl, hso, hdn, fun v t k2 H2 kr2 x2 hv ok sz => ?_⟩
    · show [V.ref h, V.int (((deep + 1 : Nat) : Int) - 1), V.ref nm, V.ref r] = _
      rw [dec1]
    refine ⟨by show 3 ≤ sizeLine; decide, fun tt ht => ?_⟩
    have s3 := same_new (o := .tup [.str "fn", .ref rx, v]) ht
    obtain ⟨x3, kr3⟩ := x2.same s3
    refine q _ (.mk (.fn xs) [t]) k2 _ ((kr1.trans kr2).trans kr3) x3 ?_ ?_ ?_
    · exact unview (h := .fn xs) (ds := [t.enc]) (.inl (.inl upd_same)) ⟨rx, [v], rfl, sqt_same s3 (kr2.tup hrx), .cons (dp_same s3 _ _ hv) .nil⟩
    · exact Gq.of (gq_one ok) ⟨rfl, by omega, fun y hy => (hso y (hxs y hy)).1⟩ (fun y hy => hso y (hxs y hy)) (show xs.length ≤ 10 by omega) (by show 1 ≤ 11; decide) (Nat.le_refl _)
    · show t.size + 0 + 1 + 12 * k2 ≤ _
      omega
def genW : List Str := ["fn", "let", "rec", "set", "if", "do", "call", "op", "op", "keep", "once", "take", "mark", "wind", "show", "call"]
def opW : List Str := ["+", "-", "*", "quot", "rem", "<", "=", "same?", "pair", "left!", "right!", "left", "right", "pair?", "none?", "rest?", "fun?"]
def lastW : List Str := ["if", "do", "mark", "wind", "show"]
theorem genW_cases : ∀ w ∈ genW, w = "fn" ∨ w = "let" ∨ w = "rec" ∨ w ∈ oneW ∨ w = "op" ∨ w = "call" ∨ w ∈ lastW := by decide +kernel
theorem mem_str {ws : List Str} {v : V} (h : v ∈ ws.map V.str) : ∃ w, w ∈ ws ∧ v = .str w := by
  obtain ⟨w, hw, rfl⟩ := List.mem_map.mp h
  exact ⟨w, hw, rfl⟩
abbrev manyK (m : Nat) : List (Key × V) := [(Sum.inr "if", V.int 3), (Sum.inr "do", V.int (m : Nat)), (Sum.inr "mark", V.int 1), (Sum.inr "wind", V.int 3), (Sum.inr "show", V.int 1)]
theorem many_at {m : Nat} (hm : m ≤ 10) : ∀ y ∈ lastW, ∃ m2 : Nat, m2 ≤ 10 ∧ valV (mergeK [] (manyK m)) (Sum.inr y) = some (.int (m2 : Nat)) := by
  intro y hy
  simp only [lastW, List.mem_cons, List.not_mem_nil, or_false] at hy
  rcases hy with rfl | rfl | rfl | rfl | rfl
  · exact ⟨3, by decide, rfl⟩
  · exact ⟨m, hm, rfl⟩
  · exact ⟨1, by decide, rfl⟩
  · exact ⟨3, by decide, rfl⟩
  · exact ⟨1, by decide, rfl⟩
abbrev s_l_any : Stmt := top 32
abbrev N_l_any : List Str := ["_law_hand_here", "_law_deep", "_law_names", "_law_room", "_law_word", "_law_bound", "_law_rows", "_law_name", "_law_op", "_law_many", "_law_k", "_law_called", "_law_inner"]
theorem sc_l_any : FnScope N_l_any ["_law_hand_here", "_law_deep", "_law_names", "_law_room"] (defScope s_l_any) := ⟨rfl, rfl, rfl, by decide +kernel, rfl, by decide +kernel, by decide +kernel⟩
theorem ok_any (T : Txt mg) (c_l_draw : Cl P w K mg base 2 "_law_draw" spDraw) (c_l_pick : Cl P w K mg base 3 "_law_pick" (spPick K)) (c_l_any_leaf : Cl P w K mg base 4 "_law_any_leaf" (spLeaf K)) (c_l_any_names : Cl P w K mg base 3 "_law_any_names" (spNames K))
    (DF : At K mg "_law_any_fun" s_l_any_fun ["_law_hand_here", "_law_deep", "_law_names", "_law_room", "_law_most"]) (D : At K mg "_law_any" s_l_any ["_law_hand_here", "_law_deep", "_law_names", "_law_room"]) :
    ∀ n, Cl P w K mg base (2 * n + 5) "_law_any" (spAny K n) := by
  intro n
  induction n with
  | zero =>
    refine cl_of D sc_l_any (fun vs H Q E h => ?_) fun f cdv A outer s H vs Q E hr h => ?_
    · obtain ⟨h, c, nm, r, names, k, deep, rfl, _⟩ := h
      rfl
    · obtain ⟨h, c, nm, r, names, k, deep, _, _, _, _, _, _, z, _⟩ := h
      exact absurd z (Nat.not_lt_zero _)
  | succ n ih =>
    have c_l_any_fun := ok_any_fun (by omega) c_l_any_names ih DF
    refine cl_of (k := 2 * n + 6) D sc_l_any (fun vs H Q E h => ?_) fun f cdv A outer s H vs Q E hr h => ?_
    · obtain ⟨h, c, nm, r, names, k, deep, rfl, _⟩ := h
      rfl
    · obtain ⟨h, c, nm, r, names, k, deep, rfl, x, hn, hne, hnl, hso, hdn, q⟩ := h
      have hu := hu_of hr
      refine ⟨_, (pss_cons (ps_if (PW.pt (pw_or (pt_cmpR op_le (pv 1) pe_int (nomark _)) (pw_or1 (pt_cmpR op_le (pe_ix ix_list (pv 3) pe_int (fun _ _ => rfl)) pe_int (nomark _)))))
        (pss_one (ps_ret (pe_c c_l_any_leaf hr (by omega) (by rfl) (pa_cons (pv 0) (pa_cons (pv 2) pa_nil)))))
        pss_nil)
      (pss_mid (ps_asg (pe_op op_sub (pe_ix ix_list (pv 3) pe_int (fun _ _ => rfl)) pe_int) (pg_sub (pv 3) pe_int set_list))
      (pss_cons (ps_set (i := 4) sc_l_any.nd rfl (Or.inl rfl) (pe_c c_l_pick hr (by omega) (by rfl) (pa_cons (pv 0) (pa_cons (pe_tup (pa_cons pe_str (pa_cons pe_str (pa_cons pe_str (pa_cons pe_str (pa_cons pe_str (pa_cons pe_str (pa_cons pe_str (pa_cons pe_str (pa_cons pe_str (pa_cons pe_str (pa_cons pe_str (pa_cons pe_str (pa_cons pe_str (pa_cons pe_str (pa_cons pe_str (pa_cons pe_str pa_nil))))))))))))))))) pa_nil))))
      (pss_cons (ps_if (pt_cmpR op_eq (pv 4) pe_str (nomark _))
        (pss_one (ps_ret (pe_c c_l_any_fun hr (by omega) (by rfl) (pa_cons (pv 0) (pa_cons (pv 1) (pa_cons (pv 2) (pa_cons (pv 3) (pa_cons pe_int pa_nil))))))))
        pss_nil)
      (pss_cons (ps_if (pt_inW (pv 4) (.cons (.cons .nil)) (show 2 ≤ sizeLine by decide) (by rfl))
        (pss_cons (ps_set (i := 5) sc_l_any.nd rfl (Or.inl rfl) (pe_c c_l_any_names hr (by omega) (by rfl) (pa_cons (pv 0) (pa_cons (pv 2) (pa_cons pe_int pa_nil)))))
        (pss_mid (ps_if (pt_cmpR (op_eqD hr.units) (pv 5) (pe_tup pa_nil) (nomark _))
          (pss_one (ps_set (i := 5) sc_l_any.nd rfl (Or.inl rfl) (pe_slice sl_tupA (pv 2) po_none (po_some pe_int))))
          pss_nil)
        (pss_mid (ps_if (pt_cmpR op_eq (pv 4) pe_str (nomark _))
          (pss_one (ps_setLc (i := 6) (own := [("_law_name", 7)]) rfl sc_l_any.nd rfl rfl (sw_true rfl rfl rfl (by decide +kernel)) (pi_tup (pv 5)) (blkOk_by (N := N_l_any) (sc := defScope s_l_any) (by decide +kernel))
      (fun _ _ _ _ _ => (pg_name (i := 7) sc_l_any.nd rfl (Or.inl rfl)))
      (fun _ _ _ _ _ => pts_nil)
      (fun _ _ _ _ _ => (pe_tup (pa_cons (pv 7) (pa_cons (pe_c ih hr (by omega) (by rfl) (pa_cons (pv 0) (pa_cons (pe_op op_sub (pv 1) pe_int) (pa_cons (pv 2) (pa_cons (pv 3) pa_nil))))) pa_nil))))))
          (pss_one (ps_setLc (i := 6) (own := [("_law_name", 7)]) rfl sc_l_any.nd rfl rfl (sw_true rfl rfl rfl (by decide +kernel)) (pi_tup (pe_slice sl_tupA (pv 5) po_none (po_some pe_int))) (blkOk_by (N := N_l_any) (sc := defScope s_l_any) (by decide +kernel))
      (fun _ _ _ _ _ => (pg_name (i := 7) sc_l_any.nd rfl (Or.inl rfl)))
      (fun _ _ _ _ _ => pts_nil)
      (fun _ _ _ _ _ => (pe_tup (pa_cons (pv 7) (pa_cons (pe_c c_l_any_fun hr (by omega) (by rfl) (pa_cons (pv 0) (pa_cons (pv 1) (pa_cons (pv 2) (pa_cons (pv 3) (pa_cons pe_int pa_nil)))))) pa_nil)))))))
        (pss_one (ps_ret (pe_tup (pa_cons (pv 4) (pa_cons (pe_tupleOf (by rfl) T.tuple (pv 6)) (pa_cons (pe_c ih hr (by omega) (by rfl) (pa_cons (pv 0) (pa_cons (pe_op op_sub (pv 1) pe_int) (pa_cons (pv 2) (pa_cons (pv 3) pa_nil))))) pa_nil)))))))))
        pss_nil)
      (pss_cons (ps_if (pt_inW (pv 4) (.cons (.cons (.cons (.cons .nil)))) (show 4 ≤ sizeLine by decide) (by rfl))
        (pss_one (ps_ret (pe_tup (pa_cons (pv 4) (pa_cons (pe_c c_l_pick hr (by omega) (by rfl) (pa_cons (pv 0) (pa_cons (pv 2) pa_nil))) (pa_cons (pe_c ih hr (by omega) (by rfl) (pa_cons (pv 0) (pa_cons (pe_op op_sub (pv 1) pe_int) (pa_cons (pv 2) (pa_cons (pv 3) pa_nil))))) pa_nil))))))
        pss_nil)
      (pss_cons (ps_if (pt_cmpR op_eq (pv 4) pe_str (nomark _))
        (pss_cons (ps_set (i := 8) sc_l_any.nd rfl (Or.inl rfl) (pe_c c_l_pick hr (by omega) (by rfl) (pa_cons (pv 0) (pa_cons (pe_tup (pa_cons pe_str (pa_cons pe_str (pa_cons pe_str (pa_cons pe_str (pa_cons pe_str (pa_cons pe_str (pa_cons pe_str (pa_cons pe_str (pa_cons pe_str (pa_cons pe_str (pa_cons pe_str (pa_cons pe_str (pa_cons pe_str (pa_cons pe_str (pa_cons pe_str (pa_cons pe_str (pa_cons pe_str pa_nil)))))))))))))))))) pa_nil))))
        (pss_mid (ps_set (i := 9) sc_l_any.nd rfl (Or.inl rfl) (pe_ifExp (pt_inW (pv 8) (.cons (.cons (.cons (.cons (.cons (.cons .nil)))))) (show 6 ≤ sizeLine by decide) (by rfl)) pe_int pe_int))
        (pss_one (ps_ret (pe_tup (pa_cons pe_str (pa_cons (pv 8) (pa_cons (pe_tupleOf (by rfl) T.tuple (pe_lc (own := [("_law_k", 10)]) rfl sc_l_any.nd (pi_range1 (by rfl) T.range (pa_cons (pv 9) pa_nil)) (blkOk_by (N := N_l_any) (sc := defScope s_l_any) (by decide +kernel))
      (fun _ _ _ _ _ => (pg_name (i := 10) sc_l_any.nd rfl (Or.inl rfl)))
      (fun _ _ _ _ _ => pts_nil)
      (fun _ _ _ _ _ => (pe_c ih hr (by omega) (by rfl) (pa_cons (pv 0) (pa_cons (pe_op op_sub (pv 1) pe_int) (pa_cons (pv 2) (pa_cons (pv 3) pa_nil)))))))) pa_nil))))))))
        pss_nil)
      (pss_cons (ps_if (pt_cmpR op_eq (pv 4) pe_str (nomark _))
        (pss_cons (ps_set (i := 11) sc_l_any.nd rfl (Or.inl rfl) (pe_c ih hr (by omega) (by rfl) (pa_cons (pv 0) (pa_cons (pe_op op_sub (pv 1) pe_int) (pa_cons (pv 2) (pa_cons (pv 3) pa_nil))))))
        (pss_one (ps_ret (pe_tup (pa_cons pe_str (pa_cons (pv 11) (pa_cons (pe_tupleOf (by rfl) T.tuple (pe_lc (own := [("_law_k", 10)]) rfl sc_l_any.nd (pi_range1 (by rfl) T.range (pa_cons (pe_ix ix_tup (pe_tup (pa_cons pe_int (pa_cons pe_int (pa_cons pe_int (pa_cons pe_int pa_nil))))) (pe_c c_l_draw hr (by omega) (by rfl) (pa_cons (pv 0) (pa_cons pe_int pa_nil))) (fun _ _ => rfl)) pa_nil)) (blkOk_by (N := N_l_any) (sc := defScope s_l_any) (by decide +kernel))
      (fun _ _ _ _ _ => (pg_name (i := 10) sc_l_any.nd rfl (Or.inl rfl)))
      (fun _ _ _ _ _ => pts_nil)
      (fun _ _ _ _ _ => (pe_c ih hr (by omega) (by rfl) (pa_cons (pv 0) (pa_cons (pe_op op_sub (pv 1) pe_int) (pa_cons (pv 2) (pa_cons (pv 3) pa_nil)))))))) pa_nil)))))))
        pss_nil)
      (pss_mid (ps_set (i := 9) sc_l_any.nd rfl (Or.inl rfl) (pe_dget hu (pe_disp (pps_cons pe_str pe_int (pps_cons pe_str (pe_ix ix_tup (pe_tup (pa_cons pe_int (pa_cons pe_int (pa_cons pe_int (pa_cons pe_int pa_nil))))) (pe_c c_l_draw hr (by omega) (by rfl) (pa_cons (pv 0) (pa_cons pe_int pa_nil))) (fun _ _ => rfl)) (pps_cons pe_str pe_int (pps_cons pe_str pe_int (pps_cons pe_str pe_int pps_nil))))) (by rfl) (by rfl) (fun z => by cases z) (by decide)) (pv 4) (fun _ _ => rfl)))
      (pss_cons (ps_set (i := 12) sc_l_any.nd rfl (Or.inl rfl) (pe_tupleOf (by rfl) T.tuple (pe_lc (own := [("_law_k", 10)]) rfl sc_l_any.nd (pi_range1 (by rfl) T.range (pa_cons (pv 9) pa_nil)) (blkOk_by (N := N_l_any) (sc := defScope s_l_any) (by decide +kernel))
      (fun _ _ _ _ _ => (pg_name (i := 10) sc_l_any.nd rfl (Or.inl rfl)))
      (fun _ _ _ _ _ => pts_nil)
      (fun _ _ _ _ _ => (pe_c ih hr (by omega) (by rfl) (pa_cons (pv 0) (pa_cons (pe_op op_sub (pv 1) pe_int) (pa_cons (pv 2) (pa_cons (pv 3) pa_nil)))))))))
      (pss_one (ps_ret (pe_ifExp (pt_cmpR op_eq (pv 4) pe_str (nomark _)) (pe_tup (pa_cons pe_str (pa_cons (pv 12) pa_nil))) (pe_op op_catA (pe_tup (pa_cons (pv 4) pa_nil)) (pv 12))))))))))))))), ?_⟩
      refine ⟨_, rfl, _, _, rfl, rfl, _, rfl, ?_⟩
      refine ite2 (fun _ => iteT ⟨_, rfl, _, rfl, h, c, nm, names, rfl, x.hand, hn, hne, hnl, hso, fun v t H' kh hh hv ok sz => q v t k H' (x.draw kh hh).2 (x.draw kh hh).1 hv (ok.mono (by omega)) (by omega)⟩) (fun hd0 => ?_)
      refine ⟨_, rfl, _, _, _, _, rfl, rfl, .inl (.inl x.rm), rfl, _, _, rfl, rfl, _, rfl, ?_⟩
      refine ite2 (fun _ => ⟨_, rfl, _, rfl, h, c, nm, names, rfl, x.hand, hn, hne, hnl, hso, fun v t H' kh hh hv ok sz => q v t k H' (x.draw kh hh).2 (x.draw kh hh).1 hv (ok.mono (by omega)) (by omega)⟩) (fun hk0 => ?_)
      obtain ⟨d1, rfl⟩ : ∃ d1, deep = d1 + 1 := ⟨deep - 1, by
        have : ¬ ((deep : Nat) : Int) ≤ 0 := fun z => hd0 (decide_eq_true z)
        omega⟩
      obtain ⟨k1, rfl⟩ : ∃ k1, k = k1 + 1 := ⟨k - 1, by
        have : ¬ ((k : Nat) : Int) ≤ 0 := fun z => hk0 (decide_eq_true z)
        omega⟩
      clear hd0 hk0
      refine ⟨fun σ' H' => σ' = [some (.ref h), some (.int ((d1 + 1 : Nat) : Int)), some (.ref nm), some (.ref r), none, none, none, none, none, none, none, none, none] ∧ Gn H' h c r k1 ∧ Kr h r H H', ?_, ?_⟩
      · refine ⟨_, rfl, _, _, _, _, rfl, rfl, .inl (.inl x.rm), rfl, _, _, rfl, rfl, _, rfl, r, _, _, 0, rfl, rfl, x.rm, rfl, rfl, ?_⟩
        have e : ((k1 + 1 : Nat) : Int) - 1 = ((k1 : Nat) : Int) := dec1 k1
        have z := x.less
        rw [← e] at z
        exact z
      rintro σ' H1 ⟨rfl, x1, kr1⟩
      refine ⟨_, rfl, by show 16 ≤ sizeLine; decide, fun tw htw => ?_⟩
      obtain ⟨x1', kr1'⟩ := x1.same (same_new (o := .tup (genW.map V.str)) htw)
      refine ⟨h, c, tw, genW.map V.str, rfl, x1'.hand, .inr (.inl (.inl upd_same)), by decide, by decide, fun v H2 hv kh2 hh2 => ?_⟩
      obtain ⟨x2, kr2'⟩ := x1'.draw kh2 hh2
      have kr2 := (kr1.trans kr1').trans kr2'
      obtain ⟨wd0, hwd, rfl⟩ := mem_str hv
      have hn2 := kr2.tup hn
      clear hv kh2 hh2 x1 kr1 x1' kr1' kr2' htw
      have hdn1 : d1 < n := by omega
      have argEq : ∀ vs : List V, vs = [V.ref h, V.int (((d1 + 1 : Nat) : Int) - 1), V.ref nm, V.ref r] → vs = [V.ref h, V.int ((d1 : Nat) : Int), V.ref nm, V.ref r] := fun vs e => by rw [e, dec1]
      rcases genW_cases wd0 hwd with rfl | rfl | rfl | hw | rfl | rfl | hw
      · refine ⟨_, rfl, rfl, _, rfl, iteEq rfl ?_⟩
        exact ⟨_, rfl, _, rfl, _, rfl, _, rfl, h, c, nm, r, names, k1, d1, 8, rfl, x2, hn2, hne, hnl, hso, hdn1, by decide, by decide, fun v t k2 H3 kr3 x3 hv ok sz => q v t k2 H3 (kr2.trans kr3) x3 hv (ok.mono (by omega)) (by omega)⟩
      · refine ⟨_, rfl, rfl, _, rfl, iteNe (by decide +kernel) ?_⟩
        refine ⟨_, rfl, rfl, fun H2b s2b => iteIn (ws := ["let", "rec"]) (by decide +kernel) ?_⟩
        obtain ⟨x3, kr3'⟩ := x2.same s2b
        have kr3 := kr2.trans kr3'
        refine ⟨_, rfl, _, rfl, h, c, nm, names, 3, rfl, x3.hand, kr3.tup hn, hnl, by decide, by decide, fun rb bs H3 kh3 hh3 hrb hbl hbs => ?_⟩
        obtain ⟨x4, kr4'⟩ := x3.draw kh3 hh3
        have kr4 := kr3.trans kr4'
        clear kr3' kr4' kh3 hh3 x2 x3
        refine ⟨fun σ' H' => ∃ (rb : Addr) (bs : List Str), σ' = [some (.ref h), some (.int ((d1 + 1 : Nat) : Int)), some (.ref nm), some (.ref r), some (.str "let"), some (.ref rb), none, none, none, none, none, none, none] ∧ Gn H' h c r k1 ∧ Kr h r H H' ∧ SqT K H' rb (bs.map V.str) ∧ bs.length ≤ 3 ∧ ∀ x ∈ bs, x ∈ names, ?_, ?_⟩
        · refine ⟨_, rfl, by show 0 ≤ sizeLine; decide, fun e0 he0 => ?_⟩
          have s5 := same_new (o := .tup []) he0
          obtain ⟨x5, kr5⟩ := x4.same s5
          refine ⟨encs bs, .tuple [], .tup (sqt_same s5 hrb) (dpAll_strs bs), .tup (.inl (.inl upd_same)) .nil, (lay_strs (fun y hy => (hso y (hbs y hy)).1) 0).sh (by decide), by decide +kernel, _, rfl, ?_⟩
          refine ite2 (fun _ => ?_) (fun _ => ⟨rb, bs, rfl, x5, kr4.trans kr5, sqt_same s5 hrb, by omega, hbs⟩)
          refine ⟨_, rfl, 1, rfl, ?_⟩
          have hpos : 0 < names.length := List.length_pos_iff.mpr hne
          refine sl_to (k := 1) ((kr4.trans kr5).tup hn) (by rw [List.length_map]; omega) fun t6 H6 s6 ht6 => ?_
          obtain ⟨x6, kr6⟩ := x5.same s6
          rw [← List.map_take] at ht6
          exact ⟨t6, names.take 1, rfl, x6, (kr4.trans kr5).trans kr6, ht6, by rw [List.length_take]; omega, fun y hy => List.mem_of_mem_take hy⟩
        clear hbs hbl hrb x4 kr4
        rintro σ' H4 ⟨rb, bs, rfl, x4, kr4, hrb, hbl, hbs⟩
        refine ⟨fun σ' H' => ∃ (L : Addr) (bs : List Str) (acc : List V) (ts : List Tr) (k2 : Nat) (v5 v7 : Option V), σ' = [some (.ref h), some (.int ((d1 + 1 : Nat) : Int)), some (.ref nm), some (.ref r), some (.str "let"), v5, some (.ref L), v7, none, none, none, none, none] ∧ Gn H' h c r k2 ∧ Kr h r H H' ∧
          H' L = some (.lst acc) ∧ DpAll K H' acc (rowsL bs ts) ∧ ts.length = bs.length ∧ bs.length ≤ 3 ∧ (∀ x ∈ bs, x ∈ names) ∧ (∀ t ∈ ts, Gq (2 + 8 * d1) t) ∧ Tr.sizes ts + 12 * k2 ≤ 4 + 12 * k1, ?_, ?_⟩
        · refine ⟨_, rfl, rfl, _, rfl, iteEq rfl ?_⟩
          refine ⟨_, rfl, rb, rfl, ⟨_, hrb⟩, fun D hD => ?_⟩
          refine lc_genP (K := K) (walk_tup (xs := bs.map V.str)) (rowsL bs) (fun i t => rowD ((bs[i]?).getD "", t.enc)) (Gq (8 * d1)) 1 (by simp [rowsL, Tr.encL]) (fun ts t hl => rowsL_snoc (by rw [List.length_map] at hl; exact hl)) (rowsL_flat bs) x4 hD (by rw [List.length_map]; omega)
            (fun H' kk => kk.tup hrb) ?_ ?_
          · rintro i y k2 H5 H6 hi kk x5 ⟨rfl, e2⟩ Q1 q1
            obtain ⟨b, eb, rfl⟩ := map_at e2
            refine ⟨rfl, ?_⟩
            refine ⟨_, rfl, _, rfl, _, rfl, _, _, rfl, rfl, _, rfl, _, rfl, h, c, nm, r, names, k2, d1, argEq _ rfl, x5, (kr4.trans kk).tup hn, hne, hnl, hso, hdn1, fun v t k3 H7 kr7 x7 hv ok sz => ?_⟩
            refine ⟨by show 2 ≤ sizeLine; decide, fun p hp => ?_⟩
            have s8 := same_new (o := .tup [.str b, v]) hp
            obtain ⟨x8, kr8⟩ := x7.same s8
            refine q1 _ t k3 _ (kr7.trans kr8) x8 ?_ ok (by omega)
            rw [eb]
            exact .tup (.inl (.inl upd_same)) (.cons (.str _) (.cons (dp_same s8 _ _ hv) .nil))
          · intro H5 acc ts k2 kk x5 hacc ha hts hok hsz
            rw [List.length_map] at hts hsz
            exact ⟨D, bs, acc, ts, k2, _, _, rfl, x5, kr4.trans kk, hacc, ha, hts, hbl, hbs, fun t ht => (hok t ht).mono (by omega), by omega⟩
        rintro σ' H5 ⟨L, bs, acc, ts, k2, v5, v7, rfl, x5, kr5, hL5, ha5, hts, hbl, hbs, hok, hsz⟩
        refine ⟨_, rfl, _, rfl, .inl ⟨L, _, rfl, .inl (.inl hL5), fun t6 ht6 => ?_⟩⟩
        have s6 := same_new (o := .tup acc) ht6
        obtain ⟨x6, kr6'⟩ := x5.same s6
        have kr6 := kr5.trans kr6'
        have ha6 := dps_same s6 _ _ ha5
        have ht6' : SqT K (upd H5 t6 (.tup acc)) t6 acc := .inl (.inl upd_same)
        generalize upd H5 t6 (.tup acc) = H6 at *
        refine ⟨_, rfl, _, rfl, _, _, rfl, rfl, _, rfl, _, rfl, h, c, nm, r, names, k2, d1, argEq _ rfl, x6, kr6.tup hn, hne, hnl, hso, hdn1, fun v t k3 H7 kr7 x7 hv ok sz => ?_⟩
        refine ⟨by show 3 ≤ sizeLine; decide, fun p hp => ?_⟩
        have s8 := same_new (o := .tup [.str "let", .ref t6, v]) hp
        obtain ⟨x8, kr8⟩ := x7.same s8
        obtain ⟨ez1, ez2⟩ := zip_end (t := t) hts
        refine q _ (.mk (.bind "let" bs) (ts ++ [t])) k3 _ ((kr6.trans kr7).trans kr8) x8 ?_ ?_ ?_
        · refine unview (h := .bind "let" bs) (ds := Tr.encL (ts ++ [t])) (.inl (.inl upd_same)) ⟨t6, acc, [v], rfl, sqt_same s8 (kr7.tup ht6'), ?_, ?_⟩
          · rw [ez1]
            exact dps_same s8 _ _ (dps_keep (fun _ _ z => kr7.tup z) _ _ (rowsL_flat bs ts) ha6)
          · rw [ez2]
            exact .cons (dp_same s8 _ _ hv) .nil
        · exact Gq.of (h := .bind "let" bs) (gq_snoc hok (ok.mono (by omega))) ⟨by rw [List.length_append, hts]; rfl, by decide +kernel, fun y hy => (hso y (hbs y hy)).1⟩ (fun y hy => hso y (hbs y hy)) trivial (by rw [List.length_append, hts]; show bs.length + 1 ≤ 11; omega) (by
            show (if ("let" : Str) = "rec" then 6 else 3) + (2 + 8 * d1) ≤ 8 * (d1 + 1)
            split <;> omega)
        · show Tr.sizes (ts ++ [t]) + 1 + 12 * k3 ≤ _
          rw [sizes_snoc]
          omega
      · refine ⟨_, rfl, rfl, _, rfl, iteNe (by decide +kernel) ?_⟩
        refine ⟨_, rfl, rfl, fun H2b s2b => iteIn (ws := ["let", "rec"]) (by decide +kernel) ?_⟩
        obtain ⟨x3, kr3'⟩ := x2.same s2b
        have kr3 := kr2.trans kr3'
        refine ⟨_, rfl, _, rfl, h, c, nm, names, 3, rfl, x3.hand, kr3.tup hn, hnl, by decide, by decide, fun rb bs H3 kh3 hh3 hrb hbl hbs => ?_⟩
        obtain ⟨x4, kr4'⟩ := x3.draw kh3 hh3
        have kr4 := kr3.trans kr4'
        clear kr3' kr4' kh3 hh3 x2 x3
        refine ⟨fun σ' H' => ∃ (rb : Addr) (bs : List Str), σ' = [some (.ref h), some (.int ((d1 + 1 : Nat) : Int)), some (.ref nm), some (.ref r), some (.str "rec"), some (.ref rb), none, none, none, none, none, none, none] ∧ Gn H' h c r k1 ∧ Kr h r H H' ∧ SqT K H' rb (bs.map V.str) ∧ bs.length ≤ 3 ∧ ∀ x ∈ bs, x ∈ names, ?_, ?_⟩
        · refine ⟨_, rfl, by show 0 ≤ sizeLine; decide, fun e0 he0 => ?_⟩
          have s5 := same_new (o := .tup []) he0
          obtain ⟨x5, kr5⟩ := x4.same s5
          refine ⟨encs bs, .tuple [], .tup (sqt_same s5 hrb) (dpAll_strs bs), .tup (.inl (.inl upd_same)) .nil, (lay_strs (fun y hy => (hso y (hbs y hy)).1) 0).sh (by decide), by decide +kernel, _, rfl, ?_⟩
          refine ite2 (fun _ => ?_) (fun _ => ⟨rb, bs, rfl, x5, kr4.trans kr5, sqt_same s5 hrb, by omega, hbs⟩)
          refine ⟨_, rfl, 1, rfl, ?_⟩
          have hpos : 0 < names.length := List.length_pos_iff.mpr hne
          refine sl_to (k := 1) ((kr4.trans kr5).tup hn) (by rw [List.length_map]; omega) fun t6 H6 s6 ht6 => ?_
          obtain ⟨x6, kr6⟩ := x5.same s6
          rw [← List.map_take] at ht6
          exact ⟨t6, names.take 1, rfl, x6, (kr4.trans kr5).trans kr6, ht6, by rw [List.length_take]; omega, fun y hy => List.mem_of_mem_take hy⟩
        clear hbs hbl hrb x4 kr4
        rintro σ' H4 ⟨rb, bs, rfl, x4, kr4, hrb, hbl, hbs⟩
        refine ⟨fun σ' H' => ∃ (L : Addr) (bs : List Str) (acc : List V) (ts : List Tr) (k2 : Nat) (v5 v7 : Option V), σ' = [some (.ref h), some (.int ((d1 + 1 : Nat) : Int)), some (.ref nm), some (.ref r), some (.str "rec"), v5, some (.ref L), v7, none, none, none, none, none] ∧ Gn H' h c r k2 ∧ Kr h r H H' ∧
          H' L = some (.lst acc) ∧ DpAll K H' acc (rowsL bs ts) ∧ ts.length = bs.length ∧ bs.length ≤ 3 ∧ (∀ x ∈ bs, x ∈ names) ∧ (∀ t ∈ ts, Gq (2 + 8 * d1) t) ∧ Tr.sizes ts + 12 * k2 ≤ 4 + 12 * k1, ?_, ?_⟩
        · refine ⟨_, rfl, rfl, _, rfl, iteNe (by decide +kernel) ?_⟩
          refine ⟨_, rfl, 2, rfl, ?_⟩
          have sl2 : ∀ {Q : VK}, (∀ t H', Same H4 H' → SqT K H' t ((bs.take 2).map V.str) → Q (.ref t) H') → rSlA K (.ref rb) none (some 2) H4 Q := fun {Q} hq => by
            refine ⟨rb, _, rfl, hrb, fun z => ?_, fun _ p hp => ?_⟩
            · rw [show (2 : Int) = ((2 : Nat) : Int) from rfl, HT.sIx_nat] at z
              refine hq rb H4 (Same.refl _) ?_
              rw [List.map_take, List.take_of_length_le (by have := z.2; omega)]
              exact hrb
            · have e : cutV (bs.map V.str) none (some ((2 : Nat) : Int)) = (bs.take 2).map V.str := by
                unfold cutV
                rw [HT.sIx_nat, HT.sIx_none, List.drop_zero, Nat.sub_zero, List.map_take]
                by_cases q2 : 2 ≤ (bs.map V.str).length
                · rw [Nat.min_eq_left q2]
                · rw [Nat.min_eq_right (by omega), List.take_length, List.take_of_length_le (by omega)]
              refine hq p _ (same_new hp) (.inl (.inl ?_))
              show (upd H4 p (.tup (cutV (bs.map V.str) none (some ((2 : Nat) : Int))))) p = _
              rw [e]
              exact upd_same
          refine sl2 fun rb2 H4b s4b hrb2 => ?_
          obtain ⟨x4b, kr4b'⟩ := x4.same s4b
          have kr4b := kr4.trans kr4b'
          have hl2 : (bs.take 2).length ≤ 2 := by rw [List.length_take]; omega
          have hbs2 : ∀ x ∈ bs.take 2, x ∈ names := fun y hy => hbs y (List.mem_of_mem_take hy)
          generalize bs.take 2 = bs2 at *
          refine ⟨rb2, rfl, ⟨_, hrb2⟩, fun D hD => ?_⟩
          refine lc_genP (K := K) (walk_tup (xs := bs2.map V.str)) (rowsL bs2) (fun i t => rowD ((bs2[i]?).getD "", t.enc)) (Gq (2 + 8 * d1)) 2 (by simp [rowsL, Tr.encL]) (fun ts t hl => rowsL_snoc (by rw [List.length_map] at hl; exact hl)) (rowsL_flat bs2) x4b hD (by rw [List.length_map]; omega)
            (fun H' kk => kk.tup hrb2) ?_ ?_
          · rintro i y k2 H5 H6 hi kk x5 ⟨rfl, e2⟩ Q1 q1
            obtain ⟨b, eb, rfl⟩ := map_at e2
            refine ⟨rfl, ?_⟩
            refine ⟨_, rfl, _, rfl, _, rfl, _, rfl, _, rfl, h, c, nm, r, names, k2, d1, 2, rfl, x5, (kr4b.trans kk).tup hn, hne, hnl, hso, hdn1, by decide, by decide, fun v t k3 H7 kr7 x7 hv ok sz => ?_⟩
            refine ⟨by show 2 ≤ sizeLine; decide, fun p hp => ?_⟩
            have s8 := same_new (o := .tup [.str b, v]) hp
            obtain ⟨x8, kr8⟩ := x7.same s8
            refine q1 _ t k3 _ (kr7.trans kr8) x8 ?_ ok (by omega)
            rw [eb]
            exact .tup (.inl (.inl upd_same)) (.cons (.str _) (.cons (dp_same s8 _ _ hv) .nil))
          · intro H5 acc ts k2 kk x5 hacc ha hts hok hsz
            rw [List.length_map] at hts hsz
            exact ⟨D, bs2, acc, ts, k2, _, _, rfl, x5, kr4b.trans kk, hacc, ha, hts, by omega, hbs2, hok, by omega⟩
        rintro σ' H5 ⟨L, bs, acc, ts, k2, v5, v7, rfl, x5, kr5, hL5, ha5, hts, hbl, hbs, hok, hsz⟩
        refine ⟨_, rfl, _, rfl, .inl ⟨L, _, rfl, .inl (.inl hL5), fun t6 ht6 => ?_⟩⟩
        have s6 := same_new (o := .tup acc) ht6
        obtain ⟨x6, kr6'⟩ := x5.same s6
        have kr6 := kr5.trans kr6'
        have ha6 := dps_same s6 _ _ ha5
        have ht6' : SqT K (upd H5 t6 (.tup acc)) t6 acc := .inl (.inl upd_same)
        generalize upd H5 t6 (.tup acc) = H6 at *
        refine ⟨_, rfl, _, rfl, _, _, rfl, rfl, _, rfl, _, rfl, h, c, nm, r, names, k2, d1, argEq _ rfl, x6, kr6.tup hn, hne, hnl, hso, hdn1, fun v t k3 H7 kr7 x7 hv ok sz => ?_⟩
        refine ⟨by show 3 ≤ sizeLine; decide, fun p hp => ?_⟩
        have s8 := same_new (o := .tup [.str "rec", .ref t6, v]) hp
        obtain ⟨x8, kr8⟩ := x7.same s8
        obtain ⟨ez1, ez2⟩ := zip_end (t := t) hts
        refine q _ (.mk (.bind "rec" bs) (ts ++ [t])) k3 _ ((kr6.trans kr7).trans kr8) x8 ?_ ?_ ?_
        · refine unview (h := .bind "rec" bs) (ds := Tr.encL (ts ++ [t])) (.inl (.inl upd_same)) ⟨t6, acc, [v], rfl, sqt_same s8 (kr7.tup ht6'), ?_, ?_⟩
          · rw [ez1]
            exact dps_same s8 _ _ (dps_keep (fun _ _ z => kr7.tup z) _ _ (rowsL_flat bs ts) ha6)
          · rw [ez2]
            exact .cons (dp_same s8 _ _ hv) .nil
        · exact Gq.of (h := .bind "rec" bs) (gq_snoc hok (ok.mono (by omega))) ⟨by rw [List.length_append, hts]; rfl, by decide +kernel, fun y hy => (hso y (hbs y hy)).1⟩ (fun y hy => hso y (hbs y hy)) trivial (by rw [List.length_append, hts]; show bs.length + 1 ≤ 11; omega) (by show 6 + (2 + 8 * d1) ≤ 8 * (d1 + 1); omega)
        · show Tr.sizes (ts ++ [t]) + 1 + 12 * k3 ≤ _
          rw [sizes_snoc]
          omega
      · refine ⟨_, rfl, rfl, _, rfl, iteNe (fun z => absurd (z ▸ hw : ("fn" : Str) ∈ oneW) (by decide +kernel)) ?_⟩
        refine ⟨_, rfl, rfl, fun H2b s2b => iteNi (ws := ["let", "rec"]) (fun z => ?_) ?_⟩
        · have key : ∀ w ∈ oneW, ¬ w ∈ (["let", "rec"] : List Str) := by decide +kernel
          exact key _ hw z
        refine ⟨_, rfl, rfl, fun H2c s2c => iteIn (ws := ["set", "keep", "once", "take"]) hw ?_⟩
        obtain ⟨x3, kr3'⟩ := x2.same (s2b.trans s2c)
        have kr3 := kr2.trans kr3'
        refine ⟨_, rfl, _, rfl, _, rfl, h, c, nm, _, rfl, x3.hand, .inr (kr3.tup hn), ?_, by rw [List.length_map]; omega, fun v H4 hv kh4 hh4 => ?_⟩
        · intro e
          exact hne (List.map_eq_nil_iff.mp e)
        obtain ⟨y, hy, rfl⟩ := mem_str hv
        obtain ⟨x4, kr4'⟩ := x3.draw kh4 hh4
        have kr4 := kr3.trans kr4'
        refine ⟨_, rfl, _, rfl, _, _, rfl, rfl, _, rfl, _, rfl, h, c, nm, r, names, k1, d1, argEq _ rfl, x4, kr4.tup hn, hne, hnl, hso, hdn1, fun v t k3 H7 kr7 x7 hv ok sz => ?_⟩
        refine ⟨by show 3 ≤ sizeLine; decide, fun p hp => ?_⟩
        have s8 := same_new (o := .tup [.str wd0, .str y, v]) hp
        obtain ⟨x8, kr8⟩ := x7.same s8
        refine q _ (.mk (.one wd0 y) [t]) k3 _ ((kr4.trans kr7).trans kr8) x8 ?_ ?_ ?_
        · exact unview (h := .one wd0 y) (ds := [t.enc]) (.inl (.inl upd_same)) ⟨[v], rfl, .cons (dp_same s8 _ _ hv) .nil⟩
        · exact Gq.of (h := .one wd0 y) (gq_one ok) ⟨rfl, hw, (hso y hy).1⟩ (hso y hy) trivial (by show 1 ≤ 11; decide) (by show 2 + 8 * d1 ≤ 8 * (d1 + 1); omega)
        · show t.size + 0 + 1 + 12 * k3 ≤ _
          omega
      · refine ⟨_, rfl, rfl, _, rfl, iteNe (by decide +kernel) ?_⟩
        refine ⟨_, rfl, rfl, fun H2b s2b => iteNi (ws := ["let", "rec"]) (by decide +kernel) ?_⟩
        refine ⟨_, rfl, rfl, fun H2c s2c => iteNi (ws := ["set", "keep", "once", "take"]) (by decide +kernel) ?_⟩
        refine ⟨_, rfl, rfl, _, rfl, iteEq rfl ?_⟩
        refine ⟨_, rfl, by show 17 ≤ sizeLine; decide, fun to hto => ?_⟩
        obtain ⟨x3, kr3'⟩ := x2.same ((s2b.trans s2c).trans (same_new (o := .tup (opW.map V.str)) hto))
        have kr3 := kr2.trans kr3'
        refine ⟨h, c, to, opW.map V.str, rfl, x3.hand, .inr (.inl (.inl upd_same)), by decide, by decide, fun v H4 hv kh4 hh4 => ?_⟩
        obtain ⟨o, ho, rfl⟩ := mem_str hv
        obtain ⟨x4, kr4'⟩ := x3.draw kh4 hh4
        have kr4 := kr3.trans kr4'
        have oso : go o := by
          have key : ∀ w ∈ opW, go w := by decide +kernel
          exact key o ho
        refine ⟨fun σ' H' => ∃ m : Nat, σ' = [some (.ref h), some (.int ((d1 + 1 : Nat) : Int)), some (.ref nm), some (.ref r), some (.str "op"), none, none, none, some (.str o), some (.int (m : Nat)), none, none, none] ∧ m ≤ 2 ∧ Gn H' h c r k1 ∧ Kr h r H H', ?_, ?_⟩
        · refine ⟨_, rfl, rfl, fun H5 s5 => ?_⟩
          obtain ⟨x5, kr5⟩ := x4.same s5
          exact ite2 (fun _ => ⟨1, rfl, by decide, x5, kr4.trans kr5⟩) (fun _ => ⟨2, rfl, by decide, x5, kr4.trans kr5⟩)
        clear x3 kr3' kr3 x4 kr4' kr4 hv kh4 hh4
        rintro σ' H4 ⟨m, rfl, hm, x4, kr4⟩
        refine ⟨_, rfl, _, rfl, _, rfl, by omega, by omega, fun D hD => ?_⟩
        refine lc_genP (K := K) (walk_range (lo := 0) (n := m)) Tr.encL (fun _ t => t.enc) (Gq (8 * d1)) 1 rfl (fun ts t _ => encL_snoc t ts) flat_encL x4 hD (by omega) (fun _ _ => trivial) ?_ ?_
        · rintro i y k4 H5 H6 hi kk xg ⟨rfl, rfl⟩ Q1 q1
          refine ⟨rfl, ?_⟩
          exact ⟨_, rfl, _, rfl, _, _, rfl, rfl, _, rfl, _, rfl, h, c, nm, r, names, k4, d1, argEq _ rfl, xg, (kr4.trans kk).tup hn, hne, hnl, hso, hdn1, q1⟩
        · intro H5 acc ts k4 kk x5 hacc ha hts hok hsz
          refine .inl ⟨D, _, rfl, .inl (.inl hacc), fun t6 ht6 => ?_⟩
          have s6 := same_new (o := .tup acc) ht6
          refine ⟨by show 3 ≤ sizeLine; decide, fun p hp => ?_⟩
          have s7 := same_new (o := .tup [.str "op", .str o, .ref t6]) hp
          obtain ⟨x8, kr8⟩ := x5.same (s6.trans s7)
          refine q _ (.mk (.op o) ts) k4 _ ((kr4.trans kk).trans kr8) x8 ?_ ?_ ?_
          · exact unview (h := .op o) (.inl (.inl upd_same)) ⟨t6, acc, rfl, sqt_same s7 (.inl (.inl upd_same)), dps_same (s6.trans s7) _ _ ha⟩
          · exact Gq.of (h := .op o) hok oso.1 oso trivial (by omega) (by show 2 + 8 * d1 ≤ 8 * (d1 + 1); omega)
          · show Tr.sizes ts + 1 + 12 * k4 ≤ _
            omega
      · refine ⟨_, rfl, rfl, _, rfl, iteNe (by decide +kernel) ?_⟩
        refine ⟨_, rfl, rfl, fun H2b s2b => iteNi (ws := ["let", "rec"]) (by decide +kernel) ?_⟩
        refine ⟨_, rfl, rfl, fun H2c s2c => iteNi (ws := ["set", "keep", "once", "take"]) (by decide +kernel) ?_⟩
        refine ⟨_, rfl, rfl, _, rfl, iteNe (by decide +kernel) ?_⟩
        refine ⟨_, rfl, rfl, _, rfl, iteEq rfl ?_⟩
        obtain ⟨x3, kr3'⟩ := x2.same (s2b.trans s2c)
        have kr3 := kr2.trans kr3'
        refine ⟨_, rfl, _, rfl, _, _, rfl, rfl, _, rfl, _, rfl, h, c, nm, r, names, k1, d1, argEq _ rfl, x3, kr3.tup hn, hne, hnl, hso, hdn1, fun v0 t0 k2 H4 kr4' x4 hv0 ok0 sz0 => ?_⟩
        have kr4 := kr3.trans kr4'
        refine ⟨_, rfl, by show 4 ≤ sizeLine; decide, fun tq htq => ?_⟩
        have s5 := same_new (o := .tup [.int 0, .int 1, .int 2, .int 10]) htq
        obtain ⟨x5, kr5'⟩ := x4.same s5
        have kr5 := kr4.trans kr5'
        have htq5 : SqT K (upd H4 tq (.tup [.int 0, .int 1, .int 2, .int 10])) tq [.int 0, .int 1, .int 2, .int 10] := .inl (.inl upd_same)
        have hv5 := dp_same s5 _ _ hv0
        generalize upd H4 tq (.tup [.int 0, .int 1, .int 2, .int 10]) = H5 at *
        refine ⟨_, rfl, h, c, _, rfl, x5.hand, by decide, by decide, fun j H6 j0 j1 kh6 hh6 => ?_⟩
        obtain ⟨x6, kr6'⟩ := x5.draw kh6 hh6
        have kr6 := kr5.trans kr6'
        obtain ⟨m, hm, em⟩ : ∃ m : Nat, m ≤ 10 ∧ atI [V.int 0, .int 1, .int 2, .int 10] j = some (.int (m : Nat)) := by
          have : j = 0 ∨ j = 1 ∨ j = 2 ∨ j = 3 := by omega
          rcases this with rfl | rfl | rfl | rfl
          · exact ⟨0, by decide, atI_nat (j := 0) rfl⟩
          · exact ⟨1, by decide, atI_nat (j := 1) rfl⟩
          · exact ⟨2, by decide, atI_nat (j := 2) rfl⟩
          · exact ⟨10, by decide, atI_nat (j := 3) rfl⟩
        refine ⟨tq, _, _, _, rfl, rfl, kh6.tup htq5, em, _, rfl, by omega, by omega, fun D hD => ?_⟩
        have hv6 := dp_keep (fun _ _ z => kh6.tup z) _ _ (flat_enc t0) hv5
        refine lc_genP (K := K) (walk_range (lo := 0) (n := m)) Tr.encL (fun _ t => t.enc) (Gq (8 * d1)) 1 rfl (fun ts t _ => encL_snoc t ts) flat_encL x6 hD (by omega) (fun _ _ => trivial) ?_ ?_
        · rintro i y k4 H7 H8 hi kk xg ⟨rfl, rfl⟩ Q1 q1
          refine ⟨rfl, ?_⟩
          exact ⟨_, rfl, _, rfl, _, _, rfl, rfl, _, rfl, _, rfl, h, c, nm, r, names, k4, d1, argEq _ rfl, xg, (kr6.trans kk).tup hn, hne, hnl, hso, hdn1, q1⟩
        · intro H7 acc ts k4 kk x7 hacc ha hts hok hsz
          refine .inl ⟨D, _, rfl, .inl (.inl hacc), fun t6 ht6 => ?_⟩
          have s6 := same_new (o := .tup acc) ht6
          refine ⟨by show 3 ≤ sizeLine; decide, fun p hp => ?_⟩
          have s7 := same_new (o := .tup [.str "call", v0, .ref t6]) hp
          obtain ⟨x8, kr8⟩ := x7.same (s6.trans s7)
          have hv7 := dp_same (s6.trans s7) _ _ (dp_keep (fun _ _ z => kk.tup z) _ _ (flat_enc t0) hv6)
          refine q _ (.mk .call (t0 :: ts)) k4 _ ((kr6.trans kk).trans kr8) x8 ?_ ?_ ?_
          · exact unview (h := .call) (ds := Tr.encL (t0 :: ts)) (.inl (.inl upd_same)) ⟨t6, [v0], acc, rfl, .cons hv7 .nil, sqt_same s7 (.inl (.inl upd_same)), dps_same (s6.trans s7) _ _ ha⟩
          · exact Gq.of (h := .call) (gq_cons ok0 hok) (Nat.succ_le_succ (Nat.zero_le _)) trivial trivial (by show ts.length + 1 ≤ 11; omega) (by show 2 + 8 * d1 ≤ 8 * (d1 + 1); omega)
          · show t0.size + Tr.sizes ts + 1 + 12 * k4 ≤ _
            omega
      · have no : ∀ y : Str, y ∉ lastW → ¬ wd0 = y := fun y hy z => hy (z ▸ hw)
        have noIn : ∀ ws : List Str, (∀ y ∈ lastW, ¬ y ∈ ws) → ¬ wd0 ∈ ws := fun ws hy => hy wd0 hw
        refine ⟨_, rfl, rfl, _, rfl, iteNe (no _ (by decide +kernel)) ?_⟩
        refine ⟨_, rfl, rfl, fun H2b s2b => iteNi (ws := ["let", "rec"]) (noIn _ (by decide +kernel)) ?_⟩
        refine ⟨_, rfl, rfl, fun H2c s2c => iteNi (ws := ["set", "keep", "once", "take"]) (noIn _ (by decide +kernel)) ?_⟩
        refine ⟨_, rfl, rfl, _, rfl, iteNe (no _ (by decide +kernel)) ?_⟩
        refine ⟨_, rfl, rfl, _, rfl, iteNe (no _ (by decide +kernel)) ?_⟩
        obtain ⟨x3, kr3'⟩ := x2.same (s2b.trans s2c)
        have kr3 := kr2.trans kr3'
        refine ⟨fun σ' H' => ∃ m : Nat, σ' = [some (.ref h), some (.int ((d1 + 1 : Nat) : Int)), some (.ref nm), some (.ref r), some (.str wd0), none, none, none, none, some (.int (m : Nat)), none, none, none] ∧ m ≤ 10 ∧ Gn H' h c r k1 ∧ Kr h r H H', ?_, ?_⟩
        · refine fun p hp => ?_
          have s4 := same_new (o := .dK []) hp
          have nD := x3.hand.there hp
          have nDr : p ≠ r := (ne_of_none x3.rm hp).symm
          obtain ⟨x4, kr4'⟩ := x3.same s4
          have ep : (upd H2c p (.dK [])) p = some (.dK []) := upd_same
          generalize upd H2c p (.dK []) = H4 at *
          refine ⟨by show 4 ≤ sizeLine; decide, fun tq htq => ?_⟩
          have s5 := same_new (o := .tup [.int 1, .int 2, .int 3, .int 10]) htq
          obtain ⟨x5, kr5'⟩ := x4.same s5
          have kr5 := kr4'.trans kr5'
          have htq5 : SqT K (upd H4 tq (.tup [.int 1, .int 2, .int 3, .int 10])) tq [.int 1, .int 2, .int 3, .int 10] := .inl (.inl upd_same)
          have ep5 := s5 _ _ ep
          generalize upd H4 tq (.tup [.int 1, .int 2, .int 3, .int 10]) = H5 at *
          refine ⟨_, rfl, h, c, _, rfl, x5.hand, by decide, by decide, fun j H6 j0 j1 kh6 hh6 => ?_⟩
          obtain ⟨x6, kr6'⟩ := x5.draw kh6 hh6
          have kr6 := kr5.trans kr6'
          have ep6 := kh6.st _ _ nD.1 ep5
          obtain ⟨m, hm, em⟩ : ∃ m : Nat, m ≤ 10 ∧ atI [V.int 1, .int 2, .int 3, .int 10] j = some (.int (m : Nat)) := by
            have : j = 0 ∨ j = 1 ∨ j = 2 ∨ j = 3 := by omega
            rcases this with rfl | rfl | rfl | rfl
            · exact ⟨1, by decide, atI_nat (j := 0) rfl⟩
            · exact ⟨2, by decide, atI_nat (j := 1) rfl⟩
            · exact ⟨3, by decide, atI_nat (j := 2) rfl⟩
            · exact ⟨10, by decide, atI_nat (j := 3) rfl⟩
          refine ⟨tq, _, _, _, rfl, rfl, kh6.tup htq5, em, ep6, manyK m, rfl, by show 5 ≤ 15; decide, _, rfl, p, ?_⟩
          obtain ⟨m2, hm2, e2⟩ := many_at hm wd0 hw
          have hg : DGet (upd H6 p (.dK (mergeK [] (manyK m)))) p (.str wd0) (valV (mergeK [] (manyK m)) (Sum.inr wd0)) := DGet.k (k := Sum.inr wd0) upd_same
          rw [e2] at hg
          refine ⟨_, rfl, hg, m2, rfl, hm2, x6.puts nD.1 nD.2 nDr, ?_⟩
          have kz : Kr h r H2c (upd H6 p (.dK (mergeK [] (manyK m)))) := Kp.mut kr6 hp
          exact kr3.trans kz
        clear x3 kr3' kr3
        rintro σ' H4 ⟨m, rfl, hm, x4, kr4⟩
        refine ⟨_, rfl, _, rfl, by omega, by omega, fun D hD => ?_⟩
        refine lc_genP (K := K) (walk_range (lo := 0) (n := m)) Tr.encL (fun _ t => t.enc) (Gq (8 * d1)) 1 rfl (fun ts t _ => encL_snoc t ts) flat_encL x4 hD (by omega) (fun _ _ => trivial) ?_ ?_
        · rintro i y k4 H5 H6 hi kk xg ⟨rfl, rfl⟩ Q1 q1
          refine ⟨rfl, ?_⟩
          exact ⟨_, rfl, _, rfl, _, _, rfl, rfl, _, rfl, _, rfl, h, c, nm, r, names, k4, d1, argEq _ rfl, xg, (kr4.trans kk).tup hn, hne, hnl, hso, hdn1, q1⟩
        · intro H5 acc ts k4 kk x5 hacc ha hts hok hsz
          refine .inl ⟨D, _, rfl, .inl (.inl hacc), fun t6 ht6 => ?_⟩
          have s6 := same_new (o := .tup acc) ht6
          have hal := DpAll.len ha
          rw [encL_len] at hal
          refine ⟨_, rfl, rfl, _, rfl, ?_⟩
          by_cases hdo : wd0 = "do"
          · refine iteEq hdo ⟨_, rfl, by show 2 ≤ sizeLine; decide, fun p hp => ?_⟩
            have s7 := same_new (o := .tup [.str "do", .ref t6]) hp
            obtain ⟨x8, kr8⟩ := x5.same (s6.trans s7)
            refine q _ (.mk .doo ts) k4 _ ((kr4.trans kk).trans kr8) x8 ?_ ?_ ?_
            · exact unview (h := .doo) (.inl (.inl upd_same)) ⟨t6, acc, rfl, sqt_same s7 (.inl (.inl upd_same)), dps_same (s6.trans s7) _ _ ha⟩
            · exact Gq.of (h := .doo) hok True.intro trivial trivial (by omega) (by show 2 + 8 * d1 ≤ 8 * (d1 + 1); omega)
            · show Tr.sizes ts + 1 + 12 * k4 ≤ _
              omega
          · refine iteNe hdo ⟨_, rfl, by show 1 ≤ sizeLine; decide, fun p hp => ⟨_, rfl, ?_⟩⟩
            have s7 := same_new (o := .tup [.str wd0]) hp
            refine cat_any (.inl (.inl upd_same)) (sqt_same s7 (.inl (.inl upd_same))) (Nat.le_trans (show 1 + acc.length ≤ 100 by omega) (by decide)) fun p2 H8 s8 hp2 => ?_
            obtain ⟨x8, kr8⟩ := x5.same ((s6.trans s7).trans s8)
            have hpw : wd0 ∈ plainW := by
              have key : ∀ y ∈ lastW, ¬ y = "do" → y ∈ plainW := by decide +kernel
              exact key _ hw hdo
            refine q _ (.mk (.plain wd0) ts) k4 _ ((kr4.trans kk).trans kr8) x8 ?_ ?_ ?_
            · exact unview (h := .plain wd0) hp2 ⟨acc, rfl, dps_same ((s6.trans s7).trans s8) _ _ ha⟩
            · exact Gq.of (h := .plain wd0) hok hpw trivial trivial (by omega) (by show 1 + 8 * d1 ≤ 8 * (d1 + 1); omega)
            · show Tr.sizes ts + 1 + 12 * k4 ≤ _
              omega
end
end K04

set_option linter.all false
/-! the text of a tree; what has no set has no text of it -/
namespace Cm
open PySem L2 PySem.Spec PyProof.Rows
def cs (s : Str) : List Nat := s.cps.toList
theorem cs_app (a b : Str) : cs (a ++ b) = cs a ++ cs b := by
  show (a ++ b).cps.toList = _
  rw [show (a ++ b).cps = a.cps ++ b.cps from rfl, Array.toList_append]
  rfl
theorem len_cs (a : Str) : a.length = (cs a).length := by
  show a.cps.size = a.cps.toList.length
  simp
theorem len_app (a b : Str) : (a ++ b).length = a.length + b.length := by rw [len_cs, cs_app, List.length_append, ← len_cs, ← len_cs]
/-- reading s from state p one comes to q -/
def sc (p : Nat) (s : Str) (q : Nat) : Prop := scan p (cs s) = some q
instance (p : Nat) (s : Str) (q : Nat) : Decidable (sc p s q) := by unfold sc; infer_instance
theorem sc_app {p q r : Nat} {a b : Str} (h : sc p a q) (k : sc q b r) : sc p (a ++ b) r := by
  show scan p (cs (a ++ b)) = some r
  rw [cs_app, scan_app, show scan p (cs a) = some q from h]
  exact k
theorem no_set {s : Str} {q : Nat} (h : sc 0 s q) : (!(Builtin.Str.occurrences s ("(set " : Str) 0 s.length 1).isEmpty) = false := by
  rw [Bool.eq_false_iff]
  intro z
  obtain ⟨i, h1, h2⟩ := (StrLaws.found_iff s _).mp z
  rw [StrLaws.subAt_eq, beq_iff_eq] at h2
  have e5 : ("(set " : Str).length = 5 := by decide +kernel
  have ep : ("(set " : Str).cps.toList = patS := by decide +kernel
  rw [e5, ep] at h2
  have e : cs s = (cs s).take i ++ (patS ++ (cs s).drop (i + 5)) := by
    rw [← h2]
    show cs s = _ ++ (((cs s).drop i).take 5 ++ (cs s).drop (i + 5))
    rw [← List.drop_drop, List.take_append_drop, List.take_append_drop]
  have := scan_none e
  rw [show scan 0 (cs s) = some q from h] at this
  cases this
theorem scan_num : ∀ (l : List Nat) (q : Nat), q ≤ 4 → l ≠ [] → (∀ c ∈ l, (48 ≤ c ∧ c ≤ 57) ∨ c = 45) → scan q l = some 0
  | [], _, _, h, _ => absurd rfl h
  | c :: l, q, hq, _, ha => by
    have hc := ha c List.mem_cons_self
    have e : stp q c = 0 := by
      unfold stp
      have : ∀ q < 5, patS[q]? ≠ some c := fun q hq z => by
        have key : ∀ q < 5, ∀ d, patS[q]? = some d → ¬ ((48 ≤ d ∧ d ≤ 57) ∨ d = 45) := by
          intro q hq d e
          match q, hq with
          | 0, _ => cases e; decide
          | 1, _ => cases e; decide
          | 2, _ => cases e; decide
          | 3, _ => cases e; decide
          | 4, _ => cases e; decide
        exact key q hq c z hc
      rw [if_neg (this q (by omega)), if_neg (by omega)]
    show (if stp q c = 5 then none else scan (stp q c) l) = _
    rw [e, if_neg (by decide)]
    cases l with
    | nil => rfl
    | cons d r => exact scan_num (d :: r) 0 (by decide) (fun z => by cases z) fun x m => ha x (List.mem_cons_of_mem _ m)
theorem cs_num (i : Int) : cs (Str.ofString (toString i)) ≠ [] ∧ (∀ c ∈ cs (Str.ofString (toString i)), (48 ≤ c ∧ c ≤ 57) ∨ c = 45) ∧ (i.natAbs ≤ 1000000000 → (cs (Str.ofString (toString i))).length ≤ 11) := by
  cases i with
  | ofNat n =>
    have e : cs (Str.ofString (toString (Int.ofNat n))) = TL.numL n := TL.tl_num n
    rw [e]
    refine ⟨TL.numL_ne n, fun c m => .inl (TL.numL_digits n c m), fun h => ?_⟩
    have := TL.numL_len (n := n) (k := 10) (by decide) (by have h' : n ≤ 1000000000 := h; omega)
    omega
  | negSucc n =>
    have e : cs (Str.ofString (toString (Int.negSucc n))) = 45 :: TL.numL (n + 1) := by
      rw [← TL.tl_num (n + 1)]
      show (Str.ofString (toString (Int.negSucc n))).cps.toList = 45 :: (Str.ofString (toString (((n + 1 : Nat)) : Int))).cps.toList
      have e1 : toString (Int.negSucc n) = "-" ++ Nat.repr (n + 1) := rfl
      have e2 : toString (((n + 1 : Nat)) : Int) = Nat.repr (n + 1) := rfl
      rw [e1, e2, Str.ofString_eq_toList, Str.ofString_eq_toList, String.toList_append]
      rfl
    rw [e]
    refine ⟨fun z => (by cases z), fun c m => ?_, fun h => ?_⟩
    · rcases List.mem_cons.mp m with rfl | m
      · exact .inr rfl
      · exact .inl (TL.numL_digits (n + 1) c m)
    · have := TL.numL_len (n := n + 1) (k := 10) (by decide) (by have h' : n + 1 ≤ 1000000000 := h; omega)
      rw [List.length_cons]
      omega
/-! ### the text -/
def rowT (x s : Str) : Str := ((("(" : Str) ++ x) ++ (" " : Str)) ++ s ++ (")" : Str)
def txtH : Hd → List Str → Str
  | .num i, _ => Str.ofString (toString i)
  | .name x, _ => x
  | .lit w, _ => if w ∈ (["true", "false", "none"] : List Str) then w else (("(" : Str) ++ Str.join " " [w]) ++ (")" : Str)
  | .fn xs, ss => ((("(fn (" : Str) ++ Str.join " " xs) ++ (") " : Str)) ++ ss.headD "" ++ (")" : Str)
  | .bind w xs, ss => ((((("(" : Str) ++ w) ++ (" (" : Str)) ++ Str.join " " ((xs.zip ss).map fun r => rowT r.1 r.2)) ++ (") " : Str)) ++ (ss.drop xs.length).headD "" ++ (")" : Str)
  | .one w x, ss => ((((("(" : Str) ++ w) ++ (" " : Str)) ++ x) ++ (" " : Str)) ++ ss.headD "" ++ (")" : Str)
  | .doo, ss => (("(" : Str) ++ Str.join " " ("do" :: ss)) ++ (")" : Str)
  | .call, ss => (("(" : Str) ++ Str.join " " ss) ++ (")" : Str)
  | .op o, ss => (("(" : Str) ++ Str.join " " (o :: ss)) ++ (")" : Str)
  | .plain w, ss => (("(" : Str) ++ Str.join " " (w :: ss)) ++ (")" : Str)
mutual
def Tr.txt : Tr → Str
  | .mk h ps => txtH h (Tr.txts ps)
def Tr.txts : List Tr → List Str
  | [] => []
  | t :: ts => t.txt :: Tr.txts ts
end
theorem txts_map : ∀ ps : List Tr, Tr.txts ps = ps.map Tr.txt
  | [] => rfl
  | t :: ts => by
    show t.txt :: Tr.txts ts = _
    rw [txts_map ts]
    rfl
/-! ### how long it is, and how it reads -/
structure TxtOk (n : Nat) (s : Str) : Prop where
  len : s.length + 6 ≤ n
  s0 : sc 0 s 0
  s1 : sc 1 s 0
structure TxtsOk (n : Nat) (ss : List Str) : Prop where
  al : ∀ s ∈ ss, sc 0 s 0 ∧ sc 1 s 0
  sum : (ss.map (·.length)).sum + 6 * ss.length ≤ n
theorem TxtsOk.nil {n : Nat} : TxtsOk n [] := ⟨fun s m => (by cases m), Nat.zero_le _⟩
theorem TxtOk.cons {n m : Nat} {s : Str} {ss : List Str} (h : TxtOk n s) (k : TxtsOk m ss) : TxtsOk (n + m) (s :: ss) :=
  ⟨fun u mu => by
    rcases List.mem_cons.mp mu with rfl | mu
    · exact ⟨h.s0, h.s1⟩
    · exact k.al u mu, by
    have h1 := h.len
    have h2 := k.sum
    rw [List.map_cons, List.sum_cons, List.length_cons]
    omega⟩
theorem join_sc : ∀ (ss : List Str), ss ≠ [] → (∀ s ∈ ss, sc 0 s 0 ∧ sc 1 s 0) → sc 0 (Str.join " " ss) 0 ∧ sc 1 (Str.join " " ss) 0
  | [], h, _ => absurd rfl h
  | [x], _, h => h x List.mem_cons_self
  | x :: y :: r, _, h => by
    have hx := h x List.mem_cons_self
    have ih := join_sc (y :: r) (fun z => by cases z) fun s m => h s (List.mem_cons_of_mem _ m)
    have e : Str.join " " (x :: y :: r) = x ++ (" " : Str) ++ Str.join " " (y :: r) := rfl
    have sp : sc 0 (" " : Str) 0 := by decide +kernel
    rw [e]
    exact ⟨sc_app (sc_app hx.1 sp) ih.1, sc_app (sc_app hx.2 sp) ih.1⟩
theorem join_len : ∀ (ss : List Str), (Str.join " " ss).length ≤ (ss.map (·.length)).sum + ss.length
  | [] => Nat.le_refl _
  | [x] => by
    show x.length ≤ _
    rw [List.map_cons, List.sum_cons, List.length_cons]
    omega
  | x :: y :: r => by
    have ih := join_len (y :: r)
    have e : Str.join " " (x :: y :: r) = x ++ (" " : Str) ++ Str.join " " (y :: r) := rfl
    have sp : (" " : Str).length = 1 := by decide +kernel
    rw [e, len_app, len_app, sp, List.map_cons, List.sum_cons, List.length_cons]
    omega
theorem join_ge : ∀ (ss : List Str), (ss.map (·.length)).sum ≤ (Str.join " " ss).length
  | [] => Nat.zero_le _
  | [x] => by
    show _ ≤ x.length
    simp
  | x :: y :: r => by
    have ih := join_ge (y :: r)
    have e : Str.join " " (x :: y :: r) = x ++ (" " : Str) ++ Str.join " " (y :: r) := rfl
    rw [e, len_app, len_app, List.map_cons, List.sum_cons]
    omega
theorem gw_sc {x : Str} (h : gw x) : sc 0 x 0 ∧ sc 1 x 0 := ⟨h.2.2.1, h.2.2.2⟩
theorem go_sc {x : Str} (h : go x) : sc 0 x 0 ∧ sc 1 x 0 := ⟨h.2.2.1, h.2.2.2⟩
theorem names_sum : ∀ {xs : List Str}, (∀ x ∈ xs, gw x) → (xs.map (·.length)).sum ≤ 2 * xs.length
  | [], _ => Nat.le_refl _
  | x :: xs, h => by
    have h1 := (h x List.mem_cons_self).2.1
    have h2 := names_sum (xs := xs) fun y m => h y (List.mem_cons_of_mem _ m)
    rw [List.map_cons, List.sum_cons, List.length_cons]
    omega
theorem rowT_ok {x s : Str} (h : gw x) (k : sc 0 s 0) : (sc 0 (rowT x s) 0 ∧ sc 1 (rowT x s) 0) ∧ (rowT x s).length ≤ s.length + 5 := by
  have a0 : sc 0 ("(" : Str) 1 := by decide +kernel
  have a1 : sc 1 ("(" : Str) 1 := by decide +kernel
  have b : sc 0 (" " : Str) 0 := by decide +kernel
  have c : sc 0 (")" : Str) 0 := by decide +kernel
  have l1 : ("(" : Str).length = 1 := by decide +kernel
  have l2 : (" " : Str).length = 1 := by decide +kernel
  have l3 : (")" : Str).length = 1 := by decide +kernel
  refine ⟨⟨sc_app (sc_app (sc_app (sc_app a0 (gw_sc h).2) b) k) c, sc_app (sc_app (sc_app (sc_app a1 (gw_sc h).2) b) k) c⟩, ?_⟩
  have := h.2.1
  unfold rowT
  rw [len_app, len_app, len_app, len_app, l1, l2, l3]
  omega
theorem rows_ok : ∀ {xs ss : List Str}, (∀ x ∈ xs, gw x) → (∀ s ∈ ss, sc 0 s 0 ∧ sc 1 s 0) → (∀ s ∈ (xs.zip ss).map fun r => rowT r.1 r.2, sc 0 s 0 ∧ sc 1 s 0) ∧ ((((xs.zip ss).map fun r => rowT r.1 r.2).map (·.length)).sum + ((xs.zip ss).map fun r => rowT r.1 r.2).length ≤ ((ss.take xs.length).map (·.length)).sum + 6 * (ss.take xs.length).length)
  | [], ss, _, _ => ⟨fun s m => (by cases m), Nat.zero_le _⟩
  | x :: xs, [], _, _ => ⟨fun s m => (by cases m), Nat.zero_le _⟩
  | x :: xs, s :: ss, hx, hs => by
    have ih := rows_ok (xs := xs) (ss := ss) (fun y m => hx y (List.mem_cons_of_mem _ m)) (fun y m => hs y (List.mem_cons_of_mem _ m))
    have r := rowT_ok (hx x List.mem_cons_self) (hs s List.mem_cons_self).1
    refine ⟨fun y m => ?_, ?_⟩
    · rcases List.mem_cons.mp m with rfl | m
      · exact r.1
      · exact ih.1 y m
    · have i2 := ih.2
      have r2 := r.2
      show (rowT x s).length + (((xs.zip ss).map fun r => rowT r.1 r.2).map (·.length)).sum + (((xs.zip ss).map fun r => rowT r.1 r.2).length + 1) ≤ s.length + ((ss.take xs.length).map (·.length)).sum + 6 * ((ss.take xs.length).length + 1)
      omega
/-- a head word and texts in brackets -/
theorem brk_ok {w : Str} {ss : List Str} {n : Nat} (hw : sc 1 w 0) (hl : w.length ≤ 6) (h : TxtsOk n ss) : TxtOk (n + 48) ((("(" : Str) ++ Str.join " " (w :: ss)) ++ (")" : Str)) := by
  have a0 : sc 0 ("(" : Str) 1 := by decide +kernel
  have a1 : sc 1 ("(" : Str) 1 := by decide +kernel
  have c : sc 0 (")" : Str) 0 := by decide +kernel
  have l1 : ("(" : Str).length = 1 := by decide +kernel
  have l3 : (")" : Str).length = 1 := by decide +kernel
  have j : sc 1 (Str.join " " (w :: ss)) 0 := by
    cases ss with
    | nil => exact hw
    | cons y r =>
      have e : Str.join " " (w :: y :: r) = w ++ (" " : Str) ++ Str.join " " (y :: r) := rfl
      have sp : sc 0 (" " : Str) 0 := by decide +kernel
      rw [e]
      exact sc_app (sc_app hw sp) (join_sc (y :: r) (fun z => by cases z) h.al).1
  refine ⟨?_, sc_app (sc_app a0 j) c, sc_app (sc_app a1 j) c⟩
  have hj := join_len (w :: ss)
  have := h.sum
  rw [List.map_cons, List.sum_cons, List.length_cons] at hj
  rw [len_app, len_app, l1, l3]
  omega
theorem txtH_ok {h : Hd} {ss : List Str} {n : Nat} (o : hok h ss.length) (g : gH h) (nw : nwH h) (ns : nsH h) (k : TxtsOk n ss) : TxtOk (n + 48) (txtH h ss) := by
  have a0 : sc 0 ("(" : Str) 1 := by decide +kernel
  have a1 : sc 1 ("(" : Str) 1 := by decide +kernel
  have b : sc 0 (" " : Str) 0 := by decide +kernel
  have c : sc 0 (")" : Str) 0 := by decide +kernel
  have l1 : ("(" : Str).length = 1 := by decide +kernel
  have l2 : (" " : Str).length = 1 := by decide +kernel
  have l3 : (")" : Str).length = 1 := by decide +kernel
  have l4 : (") " : Str).length = 2 := by decide +kernel
  have d0 : sc 0 (") " : Str) 0 := by decide +kernel
  have d1 : sc 1 (") " : Str) 0 := by decide +kernel
  have ksum := k.sum
  cases h with
  | num i =>
    obtain ⟨e1, e2, e3⟩ := cs_num i
    refine ⟨?_, scan_num _ 0 (by decide) e1 e2, scan_num _ 1 (by decide) e1 e2⟩
    show (Str.ofString (toString i)).length + 6 ≤ n + 48
    rw [len_cs]
    have := e3 g
    omega
  | name x =>
    have g' : gw x := g
    exact ⟨by have := g'.2.1; show x.length + 6 ≤ _; omega, (gw_sc g').1, (gw_sc g').2⟩
  | lit w =>
    have key : ∀ w ∈ litW, sc 0 (txtH (.lit w) []) 0 ∧ sc 1 (txtH (.lit w) []) 0 ∧ (txtH (.lit w) []).length ≤ 10 := by decide +kernel
    have z := key w o.2
    exact ⟨by have := z.2.2; show (txtH (.lit w) []).length + 6 ≤ _; omega, z.1, z.2.1⟩
  | fn xs =>
    obtain ⟨s, rfl⟩ := one_of (show ss.length = 1 from o.1)
    have ks := k.al s List.mem_cons_self
    have g' : ∀ x ∈ xs, gw x := g
    have f0 : sc 0 ("(fn (" : Str) 1 := by decide +kernel
    have f1 : sc 1 ("(fn (" : Str) 1 := by decide +kernel
    have l5 : ("(fn (" : Str).length = 5 := by decide +kernel
    have j : ∃ q, q ≤ 1 ∧ sc 1 (Str.join " " xs) q := by
      cases xs with
      | nil => exact ⟨1, Nat.le_refl _, by show sc 1 Str.empty 1; decide +kernel⟩
      | cons x r => exact ⟨0, by decide, (join_sc (x :: r) (fun z => by cases z) fun y m => gw_sc (g' y m)).2⟩
    obtain ⟨q, q1, jq⟩ := j
    have dq : sc q (") " : Str) 0 := by
      rcases Nat.le_one_iff_eq_zero_or_eq_one.mp q1 with rfl | rfl
      · exact d0
      · exact d1
    refine ⟨?_, sc_app (sc_app (sc_app (sc_app f0 jq) dq) ks.1) c, sc_app (sc_app (sc_app (sc_app f1 jq) dq) ks.1) c⟩
    have hj := join_len xs
    have hn := names_sum g'
    have hx : xs.length ≤ 10 := nw
    have e : (([s] : List Str).map (·.length)).sum = s.length := by simp
    rw [e] at ksum
    show (((("(fn (" : Str) ++ Str.join " " xs) ++ (") " : Str)) ++ s ++ (")" : Str)).length + 6 ≤ _
    rw [len_app, len_app, len_app, len_app, l5, l4, l3]
    rw [List.length_singleton] at ksum
    omega
  | one w x =>
    obtain ⟨s, rfl⟩ := one_of (show ss.length = 1 from o.1)
    have ks := k.al s List.mem_cons_self
    have g' : gw x := g
    have key : ∀ w ∈ oneW, w ≠ "set" → sc 1 w 0 ∧ w.length ≤ 4 := by decide +kernel
    have z := key w o.2.1 ns
    refine ⟨?_, sc_app (sc_app (sc_app (sc_app (sc_app (sc_app a0 z.1) b) (gw_sc g').1) b) ks.1) c, sc_app (sc_app (sc_app (sc_app (sc_app (sc_app a1 z.1) b) (gw_sc g').1) b) ks.1) c⟩
    have := g'.2.1
    have e : (([s] : List Str).map (·.length)).sum = s.length := by simp
    rw [e, List.length_singleton] at ksum
    show ((((("(" : Str) ++ w) ++ (" " : Str)) ++ x) ++ (" " : Str) ++ s ++ (")" : Str)).length + 6 ≤ _
    rw [len_app, len_app, len_app, len_app, len_app, len_app, l1, l2, l3]
    have := z.2
    omega
  | bind w xs =>
    have g' : ∀ x ∈ xs, gw x := g
    have key : ∀ w ∈ bindW, sc 1 w 0 ∧ w.length = 3 := by decide +kernel
    have z := key w o.2.1
    have lss : ss.length = xs.length + 1 := o.1
    have p0 : sc 0 (" (" : Str) 1 := by decide +kernel
    have l6 : (" (" : Str).length = 2 := by decide +kernel
    obtain ⟨s, es⟩ : ∃ s, ss.drop xs.length = [s] := by
      have : (ss.drop xs.length).length = 1 := by rw [List.length_drop]; omega
      exact one_of this
    have ms : s ∈ ss := List.mem_of_mem_drop (show s ∈ ss.drop xs.length by rw [es]; exact List.mem_cons_self)
    have ks := k.al s ms
    obtain ⟨r1, r2⟩ := rows_ok (xs := xs) (ss := ss) g' k.al
    have j : ∃ q, q ≤ 1 ∧ sc 1 (Str.join " " ((xs.zip ss).map fun r => rowT r.1 r.2)) q := by
      cases er : (xs.zip ss).map fun r => rowT r.1 r.2 with
      | nil => exact ⟨1, Nat.le_refl _, by show sc 1 Str.empty 1; decide +kernel⟩
      | cons x r =>
        rw [er] at r1
        exact ⟨0, by decide, (join_sc (x :: r) (fun z => by cases z) r1).2⟩
    obtain ⟨q, q1, jq⟩ := j
    have dq : sc q (") " : Str) 0 := by
      rcases Nat.le_one_iff_eq_zero_or_eq_one.mp q1 with rfl | rfl
      · exact d0
      · exact d1
    have hj := join_len ((xs.zip ss).map fun r => rowT r.1 r.2)
    have esum : (ss.map (·.length)).sum = ((ss.take xs.length).map (·.length)).sum + s.length := by
      conv => lhs; rw [← List.take_append_drop xs.length ss]
      rw [es, List.map_append, List.sum_append]
      simp
    have elen : (ss.take xs.length).length = xs.length := by rw [List.length_take]; omega
    rw [esum, lss] at ksum
    rw [elen] at r2
    have et : txtH (.bind w xs) ss = ((((("(" : Str) ++ w) ++ (" (" : Str)) ++ Str.join " " ((xs.zip ss).map fun r => rowT r.1 r.2)) ++ (") " : Str)) ++ s ++ (")" : Str) := by
      show ((((("(" : Str) ++ w) ++ (" (" : Str)) ++ Str.join " " ((xs.zip ss).map fun r => rowT r.1 r.2)) ++ (") " : Str)) ++ (ss.drop xs.length).headD "" ++ (")" : Str) = _
      rw [es]
      rfl
    rw [et]
    refine ⟨?_, sc_app (sc_app (sc_app (sc_app (sc_app (sc_app a0 z.1) p0) jq) dq) ks.1) c, sc_app (sc_app (sc_app (sc_app (sc_app (sc_app a1 z.1) p0) jq) dq) ks.1) c⟩
    rw [len_app, len_app, len_app, len_app, len_app, len_app, l1, l3, l4, l6, z.2]
    omega
  | doo => exact brk_ok (by decide +kernel) (by decide +kernel) k
  | op x =>
    have g' : go x := g
    exact brk_ok (go_sc g').2 g'.2.1 k
  | plain w =>
    have key : ∀ w ∈ plainW, sc 1 w 0 ∧ w.length ≤ 6 := by decide +kernel
    have z := key w o
    exact brk_ok z.1 z.2 k
  | call =>
    have hl : 1 ≤ ss.length := o
    have j := join_sc ss (fun z => by rw [z] at hl; exact absurd hl (by decide)) k.al
    refine ⟨?_, sc_app (sc_app a0 j.2) c, sc_app (sc_app a1 j.2) c⟩
    have hj := join_len ss
    show ((("(" : Str) ++ Str.join " " ss) ++ (")" : Str)).length + 6 ≤ _
    rw [len_app, len_app, l1, l3]
    omega
mutual
theorem txt_ok : ∀ t : Tr, t.ok → t.nw → t.gd → t.ns → TxtOk (48 * t.size) t.txt
  | .mk h ps, o, w, g, n => by
    have o' : hok h ps.length ∧ ps.length ≤ 11 ∧ Tr.oks ps := o
    have w' : nwH h ∧ Tr.nws ps := w
    have g' : gH h ∧ Tr.gds ps := g
    have n' : nsH h ∧ Tr.nss ps := n
    have e : (Tr.txts ps).length = ps.length := by rw [txts_map, List.length_map]
    have := txtH_ok (by rw [e]; exact o'.1) g'.1 w'.1 n'.1 (txts_ok ps o'.2.2 w'.2 g'.2 n'.2)
    show TxtOk (48 * (Tr.sizes ps + 1)) (txtH h (Tr.txts ps))
    rw [Nat.mul_succ]
    exact this
theorem txts_ok : ∀ ts : List Tr, Tr.oks ts → Tr.nws ts → Tr.gds ts → Tr.nss ts → TxtsOk (48 * Tr.sizes ts) (Tr.txts ts)
  | [], _, _, _, _ => TxtsOk.nil
  | t :: ts, o, w, g, n => by
    have o' : t.ok ∧ Tr.oks ts := o
    have w' : t.nw ∧ Tr.nws ts := w
    have g' : t.gd ∧ Tr.gds ts := g
    have n' : t.ns ∧ Tr.nss ts := n
    have := TxtOk.cons (txt_ok t o'.1 w'.1 g'.1 n'.1) (txts_ok ts o'.2 w'.2 g'.2 n'.2)
    show TxtsOk (48 * (t.size + Tr.sizes ts)) (t.txt :: Tr.txts ts)
    rw [Nat.mul_add]
    exact this
end
end Cm

namespace K04
open PySem L2 Cm
def isNum (h : Hd) : Bool := kd h == 0
def isLit3 : Hd → Bool
  | .lit w => decide (w ∈ (["true", "false", "none"] : List Str))
  | _ => false
def isOne (h : Hd) : Bool := kd h == 3
theorem eq_num {h : Hd} {n : Nat} (o : hok h n) : decide (V.str (wd h) = V.str "number") = isNum h := by
  rw [decS]
  exact by_kind (fun x => decide (x = "number")) (fun c => c == 0) (by decide +kernel) o
theorem in_one4 {h : Hd} {n : Nat} (o : hok h n) : inV (.str (wd h)) ((["set", "keep", "once", "take"] : List Str).map V.str) = isOne h := by
  rw [in_words]
  exact by_kind (fun x => decide (x ∈ (["set", "keep", "once", "take"] : List Str))) (fun c => c == 3) (by decide +kernel) o
theorem in_lit3 {h : Hd} {n : Nat} (o : hok h n) : inV (.str (wd h)) ((["true", "false", "none"] : List Str).map V.str) = isLit3 h := by
  rw [in_words]
  have other : kd h ≠ 2 → decide (wd h ∈ (["true", "false", "none"] : List Str)) = false := fun q => by
    have key : ∀ c < 10, c ≠ 2 → ∀ w ∈ Cm.wordsOf c, decide (w ∈ (["true", "false", "none"] : List Str)) = false := by decide +kernel
    exact key _ (wd_mem o).1 q _ (wd_mem o).2
  cases h with
  | lit w => rfl
  | num i => exact other (Nat.ne_of_beq_eq_false rfl)
  | name i => exact other (Nat.ne_of_beq_eq_false rfl)
  | fn i => exact other (Nat.ne_of_beq_eq_false rfl)
  | one i _ => exact other (Nat.ne_of_beq_eq_false rfl)
  | bind i _ => exact other (Nat.ne_of_beq_eq_false rfl)
  | doo => exact other (Nat.ne_of_beq_eq_false rfl)
  | call => exact other (Nat.ne_of_beq_eq_false rfl)
  | op i => exact other (Nat.ne_of_beq_eq_false rfl)
  | plain i => exact other (Nat.ne_of_beq_eq_false rfl)
def spText (K : PySem.W.Frag) (n : Nat) : Sp := fun vs H Q _ => ∃ (v : V) (t : Tr), vs = [v] ∧ Dp K H v t.enc ∧ t.ok ∧ t.nw ∧ t.gd ∧ t.ns ∧ t.dep ≤ n ∧ t.size ≤ 300000 ∧ ∀ H', Same H H' → Q (.str t.txt) H'
theorem log_ok {i : Int} (h : i.natAbs ≤ 1000000000) : i.natAbs.log2 < 1920 := by
  by_cases z : i.natAbs = 0
  · rw [z]; decide +kernel
  · exact Nat.lt_trans ((Nat.log2_lt (k := 30) z).mpr (Nat.lt_of_le_of_lt h (by decide))) (by decide)
theorem sum_le {ss : List Str} {n : Nat} (k : TxtsOk n ss) (h : n ≤ 16000000) : (ss.map (·.length)).sum + ss.length * (" " : Str).length ≤ 16777216 := by
  have l2 : (" " : Str).length = 1 := by decide +kernel
  have := k.sum
  rw [l2]
  omega
section
variable {P : Program} {w : World} {K : PySem.W.Frag} {mg : Str → Option Value} {base : Heap}
-- _law_text, level 100: 0 _law_tree | 1 _law_word | 2 _law_rows | 3 _law_pair | 4 _law_head | 5 _law_inner | 6 _law_part
abbrev s_l_text : Stmt := top 19
abbrev N_l_text : List Str := ["_law_tree", "_law_word", "_law_rows", "_law_pair", "_law_head", "_law_inner", "_law_part"]
theorem sc_l_text : FnScope N_l_text ["_law_tree"] (defScope s_l_text) := ⟨rfl, rfl, rfl, by decide +kernel, rfl, by decide +kernel, by decide +kernel⟩
theorem ok_l_text (T : Txt mg) (D : At K mg "_law_text" s_l_text ["_law_tree"]) : ∀ n, Cl P w K mg base (n + 2) "_law_text" (spText K n) := by
  intro n
  induction n with
  | zero =>
    refine cl_of (k := 1) D sc_l_text (fun vs H Q E h => ?_) fun f cdv A outer s H vs Q E hr h => ?_
    · obtain ⟨v, t, rfl, _⟩ := h
      rfl
    · obtain ⟨v, t, _, _, _, _, _, _, z, _⟩ := h
      cases t with
      | mk hd ps => exact absurd z (by show ¬ (Tr.deps ps + 1 ≤ 0); omega)
  | succ n ih =>
    refine cl_of (k := n + 2) D sc_l_text (fun vs H Q E h => ?_) fun f cdv A outer s H vs Q E hr h => ?_
    · obtain ⟨v, t, rfl, _⟩ := h
      rfl
    · obtain ⟨v, t, rfl, hd, o, nw, gd, ns, hdep, hsz, k⟩ := h
      cases t with
      | mk h ps =>
      obtain ⟨o1, o2, o3⟩ := ok_mk' o
      have nw' : nwH h ∧ Tr.nws ps := nw
      have gd' : gH h ∧ Tr.gds ps := gd
      have ns' : nsH h ∧ Tr.nss ps := ns
      have w3 := nws_iff.mp nw'.2
      have g3 := gds_iff.mp gd'.2
      have n3 := nss_iff.mp ns'.2
      have oks : Tr.oks ps := oks_iff.mpr o3
      have tx := txts_ok ps oks nw'.2 gd'.2 ns'.2
      have tok : TxtOk (48 * (Tr.mk h ps).size) (Tr.mk h ps).txt := txt_ok _ o nw gd ns
      have hsz' : Tr.sizes ps + 1 ≤ 300000 := hsz
      have dpm : ∀ c ∈ ps, c.dep ≤ n := fun c m => dep_mk.mp hdep c m
      obtain ⟨a, its, rfl, hs, hx⟩ := view hd
      have hu := hu_of hr
      have tlen := tok.len
      have tl14 : (Tr.mk h ps).txt.length ≤ 14400000 := by
        have : 48 * (Tr.mk h ps).size ≤ 14400000 := by show 48 * (Tr.sizes ps + 1) ≤ _; omega
        omega
      refine ⟨_, (pss_cons (ps_set (i := 1) sc_l_text.nd rfl (Or.inl rfl) (pe_ix ix_tup (pv 0) pe_int (fun _ _ => rfl)))
      (pss_cons (ps_if (pt_cmpR op_eq (pv 1) pe_str (nomark _))
        (pss_one (ps_ret (pe_callTy call_str_int (by rfl) T.str (by decide +kernel) (pa_cons (pe_ix ix_tup (pv 0) pe_int (fun _ _ => rfl)) pa_nil))))
        pss_nil)
      (pss_cons (ps_if (pt_cmpR op_eq (pv 1) pe_str (nomark _))
        (pss_one (ps_ret (pe_ix ix_tup (pv 0) pe_int (fun _ _ => rfl))))
        pss_nil)
      (pss_cons (ps_if (pt_inW (pv 1) (.cons (.cons (.cons .nil))) (show 3 ≤ sizeLine by decide) (by rfl))
        (pss_one (ps_ret (pv 1)))
        pss_nil)
      (pss_cons (ps_if (pt_cmpR op_eq (pv 1) pe_str (nomark _))
        (pss_one (ps_ret (pe_op op_add_str (pe_op op_add_str (pe_op op_add_str (pe_op op_add_str pe_str (pe_join pe_str (pe_ix ix_tup (pv 0) pe_int (fun _ _ => rfl)))) pe_str) (pe_c ih hr (by omega) (by rfl) (pa_cons (pe_ix ix_tup (pv 0) pe_int (fun _ _ => rfl)) pa_nil))) pe_str)))
        pss_nil)
      (pss_cons (ps_if (pt_inW (pv 1) (.cons (.cons .nil)) (show 2 ≤ sizeLine by decide) (by rfl))
        (pss_cons (ps_setLc (i := 2) (own := [("_law_pair", 3)]) rfl sc_l_text.nd rfl rfl (sw_true rfl rfl rfl (by decide +kernel)) (pi_tup (pe_ix ix_tup (pv 0) pe_int (fun _ _ => rfl))) (blkOk_by (N := N_l_text) (sc := defScope s_l_text) (by decide +kernel))
      (fun _ _ _ _ _ => (pg_name (i := 3) sc_l_text.nd rfl (Or.inl rfl)))
      (fun _ _ _ _ _ => pts_nil)
      (fun _ _ _ _ _ => (pe_op op_add_str (pe_op op_add_str (pe_op op_add_str (pe_op op_add_str pe_str (pe_ix (kx_tup (K := K)) (pv 3) pe_int (fun _ _ => rfl))) pe_str) (pe_c ih hr (by omega) (by rfl) (pa_cons (pe_ix (kx_tup (K := K)) (pv 3) pe_int (fun _ _ => rfl)) pa_nil))) pe_str)))
        (pss_one (ps_ret (pe_op op_add_str (pe_op op_add_str (pe_op op_add_str (pe_op op_add_str (pe_op op_add_str (pe_op op_add_str pe_str (pv 1)) pe_str) (pe_join pe_str (pv 2))) pe_str) (pe_c ih hr (by omega) (by rfl) (pa_cons (pe_ix ix_tup (pv 0) pe_int (fun _ _ => rfl)) pa_nil))) pe_str))))
        pss_nil)
      (pss_cons (ps_if (pt_inW (pv 1) (.cons (.cons (.cons (.cons .nil)))) (show 4 ≤ sizeLine by decide) (by rfl))
        (pss_one (ps_ret (pe_op op_add_str (pe_op op_add_str (pe_op op_add_str (pe_op op_add_str (pe_op op_add_str (pe_op op_add_str pe_str (pv 1)) pe_str) (pe_ix ix_tup (pv 0) pe_int (fun _ _ => rfl))) pe_str) (pe_c ih hr (by omega) (by rfl) (pa_cons (pe_ix ix_tup (pv 0) pe_int (fun _ _ => rfl)) pa_nil))) pe_str)))
        pss_nil)
      (pss_cons (ps_set (i := 4) sc_l_text.nd rfl (Or.inl rfl) (pv 1))
      (pss_cons (ps_set (i := 5) sc_l_text.nd rfl (Or.inl rfl) (pe_slice sl_tupA (pv 0) (po_some pe_int) po_none))
      (pss_mid (ps_if (pt_cmpR op_eq (pv 1) pe_str (nomark _))
        (pss_one (ps_set (i := 5) sc_l_text.nd rfl (Or.inl rfl) (pe_ix ix_tup (pv 0) pe_int (fun _ _ => rfl))))
        (pss_one (ps_if (pt_cmpR op_eq (pv 1) pe_str (nomark _))
          (pss_cons (ps_set (i := 4) sc_l_text.nd rfl (Or.inl rfl) (pe_ix ix_tup (pv 0) pe_int (fun _ _ => rfl)))
          (pss_one (ps_set (i := 5) sc_l_text.nd rfl (Or.inl rfl) (pe_ix ix_tup (pv 0) pe_int (fun _ _ => rfl)))))
          (pss_one (ps_if (pt_cmpR op_eq (pv 1) pe_str (nomark _))
            (pss_cons (ps_set (i := 4) sc_l_text.nd rfl (Or.inl rfl) (pe_c ih hr (by omega) (by rfl) (pa_cons (pe_ix ix_tup (pv 0) pe_int (fun _ _ => rfl)) pa_nil)))
            (pss_one (ps_set (i := 5) sc_l_text.nd rfl (Or.inl rfl) (pe_ix ix_tup (pv 0) pe_int (fun _ _ => rfl)))))
            pss_nil)))))
      (pss_one (ps_ret (pe_op op_add_str (pe_op op_add_str pe_str (pe_join pe_str (pe_op op_cat (pe_lst (pa_cons (pv 4) pa_nil)) (pe_lc (own := [("_law_part", 6)]) rfl sc_l_text.nd (pi_tup (pv 5)) (blkOk_by (N := N_l_text) (sc := defScope s_l_text) (by decide +kernel))
      (fun _ _ _ _ _ => (pg_name (i := 6) sc_l_text.nd rfl (Or.inl rfl)))
      (fun _ _ _ _ _ => pts_nil)
      (fun _ _ _ _ _ => (pe_c ih hr (by omega) (by rfl) (pa_cons (pv 6) pa_nil))))))) pe_str))))))))))))), ?_⟩
      have k' : ∀ H', Same H H' → Q (.str (txtH h (Tr.txts ps))) H' := k
      have tl' : (txtH h (Tr.txts ps)).length ≤ 14400000 := tl14
      refine ⟨_, rfl, a, its, _, _, rfl, rfl, hs, hx.head, ?_⟩
      refine ⟨_, rfl, rfl, _, rfl, ?_⟩
      rw [eq_num o1]
      cases eN : isNum h with
      | true =>
        refine iteT ?_
        cases h with
        | num i =>
          obtain rfl := (show its = _ from hx)
          exact ⟨_, rfl, a, _, _, _, rfl, rfl, hs, atI_nat (j := 1) rfl, i, rfl, log_ok gd'.1, k' _ (Same.refl _)⟩
        | _ => cases eN
      | false =>
      refine iteF ⟨_, rfl, rfl, _, rfl, ?_⟩
      rw [eq_name o1]
      cases en : isName h with
      | true =>
        refine iteT ?_
        cases h with
        | name x =>
          obtain rfl := (show its = _ from hx)
          exact ⟨_, rfl, a, _, _, _, rfl, rfl, hs, atI_nat (j := 1) rfl, k' _ (Same.refl _)⟩
        | _ => cases en
      | false =>
      refine iteF ⟨_, rfl, rfl, fun H1 s1 => ?_⟩
      rw [in_lit3 o1]
      cases e3 : isLit3 h with
      | true =>
        refine iteT ⟨_, rfl, ?_⟩
        cases h with
        | lit w =>
          have e : txtH (.lit w) (Tr.txts ps) = w := if_pos (of_decide_eq_true e3)
          rw [e] at k'
          exact k' _ s1
        | _ => cases e3
      | false =>
      refine iteF ⟨_, rfl, rfl, _, rfl, ?_⟩
      rw [eq_fn o1]
      have hs1 := sqt_same s1 hs
      have hx1 := hx.same s1
      cases eF : isFn h with
      | true =>
        refine iteT ?_
        cases h with
        | fn xs =>
          obtain ⟨p, rfl⟩ := one_of (show ps.length = 1 from o1.1)
          obtain ⟨q, vs, rfl, hq, hv⟩ := hx1
          obtain ⟨u, rfl, hu'⟩ := dpAll_one (d := p.enc) hv
          have mp : p ∈ [p] := List.mem_singleton.mpr rfl
          have szp := sizeMem mp
          have l1 : ("(fn (" : Str).length = 5 := by decide +kernel
          have l2 : (") " : Str).length = 2 := by decide +kernel
          have l3 : (")" : Str).length = 1 := by decide +kernel
          have l4 : (" " : Str).length = 1 := by decide +kernel
          have hn := names_sum (xs := xs) gd'.1
          have hx10 : xs.length ≤ 10 := nw'.1
          have hj := join_len xs
          have et : (txtH (.fn xs) (Tr.txts [p])).length = 5 + (Str.join " " xs).length + 2 + p.txt.length + 1 := by
            show (((("(fn (" : Str) ++ Str.join " " xs) ++ (") " : Str)) ++ p.txt ++ (")" : Str)).length = _
            rw [len_app, len_app, len_app, len_app, l1, l2, l3]
          rw [et] at tl'
          refine ⟨⟨_, rfl⟩, _, rfl, a, _, _, _, rfl, rfl, hs1, atI_nat (j := 1) rfl, _, q, xs, rfl, rfl, .inr hq, by rw [l4]; omega, ?_⟩
          rw [TL.join_eq]
          refine ⟨_, _, rfl, rfl, by rw [l1, sizeLine_eq]; omega, _, _, rfl, rfl, by rw [len_app, l1, l2, sizeLine_eq]; omega, ?_⟩
          refine ⟨_, rfl, a, _, _, _, rfl, rfl, hs1, atI_nat (j := 2) rfl, u, p, rfl, hu', o3 p mp, w3 p mp, g3 p mp, n3 p mp, dpm p mp, by omega, fun H2 s2 => ?_⟩
          refine ⟨_, _, rfl, rfl, by rw [len_app, len_app, l1, l2, sizeLine_eq]; omega, _, _, rfl, rfl, by rw [len_app, len_app, len_app, l1, l2, l3, sizeLine_eq]; omega, k' _ (s1.trans s2)⟩
        | _ => cases eF
      | false =>
      refine iteF ⟨_, rfl, rfl, fun H2 s2 => ?_⟩
      have S2 := s1.trans s2
      have hs2 := sqt_same s2 hs1
      have hx2 := hx1.same s2
      rw [in_B o1]
      cases eB : kB h with
      | true =>
        refine iteT ?_
        cases h with
        | bind w xs =>
          obtain ⟨q, rows, vs, rfl, hq, hrows, hv⟩ := hx2
          have hpl : ps.length = xs.length + 1 := o1.1
          obtain ⟨pL, epL⟩ : ∃ p, ps[xs.length]? = some p := ⟨ps[xs.length]'(by omega), List.getElem?_eq_getElem _⟩
          have mp : pL ∈ ps := List.mem_of_getElem? epL
          have edrop : ps.drop xs.length = [pL] := by
            obtain ⟨hx, e⟩ := List.getElem?_eq_some_iff.mp epL
            rw [List.drop_eq_getElem_cons hx, e, List.drop_of_length_le (by omega)]
          rw [encL_map, ← List.map_drop, edrop] at hv
          obtain ⟨ul, rfl, hul⟩ := dpAll_one (d := pL.enc) hv
          have lrows : rows.length = xs.length := by
            have := DpAll.len hrows
            rw [List.length_map, List.length_zip, encL_len] at this
            omega
          have szp := sizeMem mp
          obtain ⟨Z, hZ⟩ : ∃ Z, Z = xs.zip ps := ⟨_, rfl⟩
          have lZ : Z.length = xs.length := by rw [hZ, List.length_zip]; omega
          obtain ⟨rs, hrs⟩ : ∃ rs, rs = (xs.zip (Tr.txts ps)).map fun r => rowT r.1 r.2 := ⟨_, rfl⟩
          have ers : rs = Z.map fun r => rowT r.1 r.2.txt := by
            rw [hrs, hZ, txts_map, List.zip_map_right, List.map_map]
            rfl
          have l1 : ("(" : Str).length = 1 := by decide +kernel
          have l2 : (" (" : Str).length = 2 := by decide +kernel
          have l3 : (") " : Str).length = 2 := by decide +kernel
          have l4 : (")" : Str).length = 1 := by decide +kernel
          have l5 : (" " : Str).length = 1 := by decide +kernel
          have et : txtH (.bind w xs) (Tr.txts ps) = ((((("(" : Str) ++ w) ++ (" (" : Str)) ++ Str.join " " rs) ++ (") " : Str)) ++ pL.txt ++ (")" : Str) := by
            show ((((("(" : Str) ++ w) ++ (" (" : Str)) ++ Str.join " " ((xs.zip (Tr.txts ps)).map fun r => rowT r.1 r.2)) ++ (") " : Str)) ++ ((Tr.txts ps).drop xs.length).headD "" ++ (")" : Str) = _
            rw [← hrs, txts_map, ← List.map_drop, edrop]
            rfl
          rw [et] at k' tl'
          rw [len_app, len_app, len_app, len_app, len_app, len_app, l1, l2, l3, l4] at tl'
          have rsum : (rs.map (·.length)).sum + rs.length * (" " : Str).length ≤ 16777216 := by
            have z := (rows_ok (xs := xs) (ss := Tr.txts ps) gd'.1 tx.al).2
            rw [← hrs] at z
            have z2 := tx.sum
            have z3 : (((Tr.txts ps).take xs.length).map (·.length)).sum ≤ ((Tr.txts ps).map (·.length)).sum := by
              conv => rhs; rw [← List.take_append_drop xs.length (Tr.txts ps), List.map_append, List.sum_append]
              omega
            have z4 : ((Tr.txts ps).take xs.length).length ≤ (Tr.txts ps).length := by rw [List.length_take]; omega
            rw [l5]
            omega
          refine ⟨_, rfl, a, _, _, _, rfl, rfl, hs2, atI_nat (j := 1) rfl, q, rfl, ⟨_, hq⟩, fun D1 hD1 => ?_⟩
          refine lc_data (K := K) (walk_tup (K := K) (a := q) (xs := rows)) (fun i => (Z[i]?).map fun r => PyData.str (rowT r.1 r.2.txt)) hD1 (by omega) (fun H' s => sqt_same s hq) (fun i _ d e => ?_) ?_ ?_
          · obtain ⟨b, _, rfl⟩ := Option.map_eq_some_iff.mp e
            rfl
          · rintro i x0 H3' H3 hi s3 ⟨rfl, ex⟩ Q1 Q0 q1 q0
            obtain ⟨d, g1, g2⟩ := DpAll.atV (dps_same s3 _ _ hrows) ex
            obtain ⟨⟨x, e⟩, er, rfl⟩ := map_at g1
            obtain ⟨g4, g5⟩ := List.getElem?_zip_eq_some.mp er
            obtain ⟨c, ec, rfl⟩ := encL_at' g5
            have hcm : c ∈ ps := List.mem_of_getElem? ec
            have szc := sizeMem hcm
            obtain ⟨t, u, rfl, ht, hu'⟩ := dp_row g2
            have eZ : Z[i]? = some (x, c) := by rw [hZ]; exact List.getElem?_zip_eq_some.mpr ⟨g4, ec⟩
            have gx : gw x := gd'.1 x (List.mem_of_getElem? g4)
            have lx : (x, c.enc).fst.length ≤ 2 := gx.2.1
            have tc := txt_ok c (o3 c hcm) (w3 c hcm) (g3 c hcm) (n3 c hcm)
            have lc : c.txt.length ≤ 14400000 := by have := tc.len; omega
            refine ⟨rfl, iteT (B := Q0 H3) ⟨_, rfl, t, _, _, _, rfl, rfl, ht, atI_nat (j := 0) rfl, _, _, rfl, rfl, by rw [l1, sizeLine_eq]; omega, _, _, rfl, rfl, by rw [len_app, l1, l5, sizeLine_eq]; omega, ?_⟩⟩
            refine ⟨_, rfl, t, _, _, _, rfl, rfl, ht, atI_nat (j := 1) rfl, u, c, rfl, hu', o3 c hcm, w3 c hcm, g3 c hcm, n3 c hcm, dpm c hcm, by omega, fun H4 s4 => ?_⟩
            refine ⟨_, _, rfl, rfl, by rw [len_app, len_app, l1, l5, sizeLine_eq]; omega, _, _, rfl, rfl, by rw [len_app, len_app, len_app, l1, l4, l5, sizeLine_eq]; omega, ?_⟩
            exact q1 _ _ (.str (rowT x c.txt)) (by rw [eZ]; rfl) s4 (.str _)
          intro H3 acc s3 hacc ha
          rw [lrows, ← lZ, Cm.range_map (fun r : Str × Tr => PyData.str (rowT r.1 r.2.txt))] at ha
          have e2 : Z.map (fun r : Str × Tr => PyData.str (rowT r.1 r.2.txt)) = rs.map PyData.str := by rw [ers, List.map_map]; rfl
          rw [e2] at ha
          have := dpAll_strs_inv ha
          subst this
          have hs3 := sqt_same s3 hs2
          refine ⟨_, rfl, _, _, rfl, rfl, by show ("(" : Str).length + w.length ≤ _; rw [l1, sizeLine_eq]; omega, _, _, rfl, rfl, by show (("(" : Str) ++ w).length + _ ≤ _; rw [len_app, l1, l2, sizeLine_eq]; omega, ?_⟩
          refine ⟨⟨_, rfl⟩, _, rfl, _, D1, rs, rfl, rfl, .inl (.inl (.inl hacc)), rsum, ?_⟩
          rw [TL.join_eq]
          refine ⟨_, _, rfl, rfl, by show ((("(" : Str) ++ w) ++ (" (" : Str)).length + _ ≤ _; rw [len_app, len_app, l1, l2, sizeLine_eq]; omega, _, _, rfl, rfl, by show (((("(" : Str) ++ w) ++ (" (" : Str)) ++ Str.join " " rs).length + _ ≤ _; rw [len_app, len_app, len_app, l1, l2, l3, sizeLine_eq]; omega, ?_⟩
          refine ⟨_, rfl, a, _, _, _, rfl, rfl, hs3, atI_nat (j := 2) rfl, ul, pL, rfl, dp_same s3 _ _ hul, o3 pL mp, w3 pL mp, g3 pL mp, n3 pL mp, dpm pL mp, by omega, fun H4 s4 => ?_⟩
          exact ⟨_, _, rfl, rfl, by show ((((("(" : Str) ++ w) ++ (" (" : Str)) ++ Str.join " " rs) ++ (") " : Str)).length + _ ≤ _; rw [len_app, len_app, len_app, len_app, l1, l2, l3, sizeLine_eq]; omega, _, _, rfl, rfl, by show (((((("(" : Str) ++ w) ++ (" (" : Str)) ++ Str.join " " rs) ++ (") " : Str)) ++ pL.txt).length + _ ≤ _; rw [len_app, len_app, len_app, len_app, len_app, l1, l2, l3, l4, sizeLine_eq]; omega, k' _ ((S2.trans s3).trans s4)⟩
        | _ => cases eB
      | false =>
      refine iteF ⟨_, rfl, rfl, fun H3 s3 => ?_⟩
      have S3 := S2.trans s3
      have hs3 := sqt_same s3 hs2
      have hx3 := hx2.same s3
      rw [in_one4 o1]
      cases eO : isOne h with
      | true =>
        refine iteT ?_
        cases h with
        | one w x =>
          obtain ⟨p, rfl⟩ := one_of (show ps.length = 1 from o1.1)
          obtain ⟨vs, rfl, hv⟩ := hx3
          obtain ⟨u, rfl, hu'⟩ := dpAll_one (d := p.enc) hv
          have mp : p ∈ [p] := List.mem_singleton.mpr rfl
          have szp := sizeMem mp
          have l1 : ("(" : Str).length = 1 := by decide +kernel
          have l4 : (")" : Str).length = 1 := by decide +kernel
          have l5 : (" " : Str).length = 1 := by decide +kernel
          have k2 : ∀ H', Same H H' → Q (.str (((((("(" : Str) ++ w) ++ (" " : Str)) ++ x) ++ (" " : Str)) ++ p.txt ++ (")" : Str))) H' := k'
          have tl2 : (((((("(" : Str) ++ w) ++ (" " : Str)) ++ x) ++ (" " : Str)) ++ p.txt ++ (")" : Str)).length ≤ 14400000 := tl'
          rw [len_app, len_app, len_app, len_app, len_app, len_app, l1, l4, l5] at tl2
          refine ⟨_, rfl, _, _, rfl, rfl, by show ("(" : Str).length + w.length ≤ _; rw [l1, sizeLine_eq]; omega, _, _, rfl, rfl, by show (("(" : Str) ++ w).length + _ ≤ _; rw [len_app, l1, l5, sizeLine_eq]; omega, ?_⟩
          refine ⟨_, rfl, a, _, _, _, rfl, rfl, hs3, atI_nat (j := 1) rfl, _, _, rfl, rfl, by show ((("(" : Str) ++ w) ++ (" " : Str)).length + x.length ≤ _; rw [len_app, len_app, l1, l5, sizeLine_eq]; omega, _, _, rfl, rfl, by show (((("(" : Str) ++ w) ++ (" " : Str)) ++ x).length + _ ≤ _; rw [len_app, len_app, len_app, l1, l5, sizeLine_eq]; omega, ?_⟩
          refine ⟨_, rfl, a, _, _, _, rfl, rfl, hs3, atI_nat (j := 2) rfl, u, p, rfl, hu', o3 p mp, w3 p mp, g3 p mp, n3 p mp, dpm p mp, by omega, fun H4 s4 => ?_⟩
          exact ⟨_, _, rfl, rfl, by show ((((("(" : Str) ++ w) ++ (" " : Str)) ++ x) ++ (" " : Str)).length + _ ≤ _; rw [len_app, len_app, len_app, len_app, l1, l5, sizeLine_eq]; omega, _, _, rfl, rfl, by show (((((("(" : Str) ++ w) ++ (" " : Str)) ++ x) ++ (" " : Str)) ++ p.txt).length + _ ≤ _; rw [len_app, len_app, len_app, len_app, len_app, l1, l4, l5, sizeLine_eq]; omega, k2 _ (S3.trans s4)⟩
        | _ => cases eO
      | false =>
      refine iteF ⟨_, rfl, _, rfl, 1, rfl, ?_⟩
      have lits : 1 ≤ its.length := by
        have := hx.head
        cases its with
        | nil => cases this
        | cons _ _ => exact Nat.succ_le_succ (Nat.zero_le _)
      refine sl_from (k := 1) hs3 lits fun t4 H4 s4 ht4 => ?_
      have S4 := S3.trans s4
      have hs4 := sqt_same s4 hs3
      have hx4 := hx3.same s4
      refine ⟨fun σ' H' => ∃ (hw : Str) (q : Addr) (us : List V) (qs : List Tr), σ' = [some (.ref a), some (.str (wd h)), none, none, some (.str hw), some (.ref q), none] ∧ Same H H' ∧ SqT K H' q us ∧ DpAll K H' us (Tr.encL qs) ∧ (∀ c ∈ qs, c ∈ ps) ∧ txtH h (Tr.txts ps) = (("(" : Str) ++ Str.join " " (hw :: Tr.txts qs)) ++ (")" : Str) ∧ qs.length ≤ 11 ∧ hw.length ≤ 14400000, ?_, ?_⟩
      · refine ⟨_, rfl, rfl, _, rfl, ?_⟩
        rw [eq_do o1]
        cases eD : isDo h with
        | true =>
          refine iteT ?_
          cases h with
          | doo =>
            obtain ⟨q, vs, rfl, hq, hv⟩ := hx4
            exact ⟨_, rfl, a, _, _, _, rfl, rfl, hs4, atI_nat (j := 1) rfl, _, q, vs, ps, rfl, S4, hq, hv, fun c m => m, rfl, o2, by decide +kernel⟩
          | _ => cases eD
        | false =>
        refine iteF ⟨_, rfl, rfl, _, rfl, ?_⟩
        rw [eq_op o1]
        cases eP : isOp h with
        | true =>
          refine iteT ?_
          cases h with
          | op x =>
            obtain ⟨q, vs, rfl, hq, hv⟩ := hx4
            have gx : go x := gd'.1
            exact ⟨_, rfl, a, _, _, _, rfl, rfl, hs4, atI_nat (j := 1) rfl, _, rfl, a, _, _, _, rfl, rfl, hs4, atI_nat (j := 2) rfl, _, q, vs, ps, rfl, S4, hq, hv, fun c m => m, rfl, o2, by have := gx.2.1; omega⟩
          | _ => cases eP
        | false =>
        refine iteF ⟨_, rfl, rfl, _, rfl, ?_⟩
        rw [eq_call o1]
        cases eC : isCall h with
        | true =>
          refine iteT ?_
          cases h with
          | call =>
            have hp1 : 1 ≤ ps.length := o1
            obtain ⟨p, qs, rfl⟩ : ∃ p qs, ps = p :: qs := by
              cases ps with
              | nil => exact absurd hp1 (by decide)
              | cons p qs => exact ⟨p, qs, rfl⟩
            obtain ⟨q, us, vs, rfl, hus, hq, hv⟩ := hx4
            obtain ⟨u, rfl, hu'⟩ := dpAll_one (d := p.enc) hus
            have mp : p ∈ p :: qs := List.mem_cons_self
            have szp := sizeMem mp
            have tc := txt_ok p (o3 p mp) (w3 p mp) (g3 p mp) (n3 p mp)
            refine ⟨_, rfl, a, _, _, _, rfl, rfl, hs4, atI_nat (j := 1) rfl, u, p, rfl, hu', o3 p mp, w3 p mp, g3 p mp, n3 p mp, dpm p mp, by omega, fun H5 s5 => ?_⟩
            exact ⟨_, rfl, a, _, _, _, rfl, rfl, sqt_same s5 hs4, atI_nat (j := 2) rfl, _, q, vs, qs, rfl, S4.trans s5, sqt_same s5 hq, dps_same s5 _ _ hv, fun c m => List.mem_cons_of_mem _ m, rfl, by rw [List.length_cons] at o2; omega, by have := tc.len; omega⟩
          | _ => cases eC
        | false =>
        refine iteF ?_
        cases h with
        | plain w =>
          obtain ⟨vs, rfl, hv⟩ := hx4
          have key : ∀ w ∈ plainW, w.length ≤ 6 := by decide +kernel
          exact ⟨_, t4, vs, ps, rfl, S4, ht4, hv, fun c m => m, rfl, o2, by have := key w o1; show w.length ≤ _; omega⟩
        | lit w =>
          have e0 : ps = [] := List.length_eq_zero_iff.mp o1.1
          subst e0
          obtain rfl := (show its = _ from hx4)
          have key : ∀ w ∈ litW, w.length ≤ 6 := by decide +kernel
          have en3 : ¬ w ∈ (["true", "false", "none"] : List Str) := of_decide_eq_false e3
          exact ⟨_, t4, [], [], rfl, S4, ht4, .nil, fun c m => m, if_neg en3, Nat.zero_le _, by have := key w o1.2; show w.length ≤ _; omega⟩
        | num i => cases eN
        | name x => cases en
        | fn x => cases eF
        | bind w x => cases eB
        | one w x => cases eO
        | doo => cases eD
        | op x => cases eP
        | call => cases eC
      · rintro σ' H5 ⟨hw, q, us, qs, rfl, s5, hq, hus, hsub, et, hsq, lhw⟩
        have l1 : ("(" : Str).length = 1 := by decide +kernel
        have l4 : (")" : Str).length = 1 := by decide +kernel
        have l5 : (" " : Str).length = 1 := by decide +kernel
        rw [et] at k' tl'
        rw [len_app, len_app, l1, l4] at tl'
        have lq : us.length = qs.length := by have := DpAll.len hus; rwa [encL_len] at this
        have oksq : Tr.oks qs := oks_iff.mpr fun c m => o3 c (hsub c m)
        have tq := txts_ok qs oksq (nws_iff.mpr fun c m => w3 c (hsub c m)) (gds_iff.mpr fun c m => g3 c (hsub c m)) (nss_iff.mpr fun c m => n3 c (hsub c m))
        refine ⟨⟨_, rfl⟩, _, rfl, by show 1 ≤ sizeLine; decide, fun L1 hL1 => ?_⟩
        have s6 := same_new (o := .lst [V.str hw]) hL1
        have e6 : upd H5 L1 (.lst [V.str hw]) L1 = some (.lst [V.str hw]) := upd_same
        have hq6 := sqt_same s6 hq
        have hus6 := dps_same s6 _ _ hus
        generalize upd H5 L1 (.lst [V.str hw]) = H6 at *
        refine ⟨_, rfl, q, rfl, ⟨_, hq6⟩, fun D1 hD1 => ?_⟩
        refine lc_dataW (K := K) (walk_tup (K := K) (a := q) (xs := us)) (fun i => (qs[i]?).map fun c => PyData.str c.txt) hD1 (by omega) (fun H' s => sqt_same s hq6) (fun i _ d e => ?_) ?_ ?_
        · obtain ⟨b, _, rfl⟩ := Option.map_eq_some_iff.mp e
          rfl
        · rintro i x0 H7' H7 hi s7 ⟨rfl, ex⟩ Q1 Q0 q1 q0
          obtain ⟨d, g1, g2⟩ := DpAll.atV (dps_same s7 _ _ hus6) ex
          obtain ⟨c, ec, rfl⟩ := encL_at' g1
          have hcm : c ∈ ps := hsub c (List.mem_of_getElem? ec)
          have szc := sizeMem hcm
          exact ⟨rfl, iteT (B := Q0 H7) ⟨_, rfl, x0, c, rfl, g2, o3 c hcm, w3 c hcm, g3 c hcm, n3 c hcm, dpm c hcm, by omega, fun H8 s8 => q1 _ _ (.str c.txt) (by rw [ec]; rfl) s8 (.str _)⟩⟩
        intro H7 acc s7 hacc ha
        rw [lq, Cm.range_map (fun c : Tr => PyData.str c.txt)] at ha
        have e2 : qs.map (fun c : Tr => PyData.str c.txt) = (Tr.txts qs).map PyData.str := by rw [txts_map, List.map_map]; rfl
        rw [e2] at ha
        have := dpAll_strs_inv ha
        subst this
        have lt : (Tr.txts qs).length = qs.length := by rw [txts_map, List.length_map]
        refine ⟨L1, D1, _, _, rfl, rfl, s7 _ _ e6, hacc, by rw [List.length_map, lt, sizeLine_eq]; show 1 + _ ≤ _; omega, fun D2 hD2 => ?_⟩
        have s8 := same_new (o := .lst ([V.str hw] ++ (Tr.txts qs).map V.str)) hD2
        refine ⟨_, D2, hw :: Tr.txts qs, rfl, rfl, .inl (.inl (.inl upd_same)), ?_, ?_⟩
        · have := join_ge (hw :: Tr.txts qs)
          rw [List.map_cons, List.sum_cons] at this
          rw [l5, List.map_cons, List.sum_cons, List.length_cons]
          omega
        rw [TL.join_eq]
        exact ⟨_, _, rfl, rfl, by rw [l1, sizeLine_eq]; omega, _, _, rfl, rfl, by rw [len_app, l1, l4, sizeLine_eq]; omega, k' _ ((s5.trans s6).trans (s7.trans s8))⟩
end
end K04

namespace K04
open PySem L2 Cm
def spLaw (K : PySem.W.Frag) : Sp := fun vs H Q _ => ∃ (a : Addr) (ns : List Int), vs = [.ref a] ∧ SqL K H a (ns.map V.int) ∧ ns.length ≤ 63 ∧ ∀ H', Q (.bl true) H'
structure Calls (P : Program) (w : World) (K : PySem.W.Frag) (mg : Str → Option Value) (base : Heap) : Prop where
  hand : Cl P w K mg base 1 "_law_hand" (spHand K)
  draw : Cl P w K mg base 2 "_law_draw" spDraw
  prog : Cl P w K mg base 18 "_law_program" (spProgram K)
  wo : Cl P w K mg base 147 "without_set" (spWithout K)
  plain : Cl P w K mg base 215 "_law_plain" (spLPlain K 70)
  text : Cl P w K mg base 66 "_law_text" (spText K 64)
  sets : Cl P w K mg base 72 "_law_sets" (spSets K 70)
  any : Cl P w K mg base 17 "_law_any" (spAny K 6)
/-- a tree fit for it all -/
structure Fit (t : Tr) : Prop where
  ok : t.ok
  nw : t.nw
  gd : t.gd
  ld : t.ld ≤ 64
  sz : t.size ≤ 4300
structure Fit2 (t : Tr) : Prop where
  ok : t.ok
  nw : t.nw
  gd : t.gd
  ns : t.ns
  dep : t.dep ≤ 64
  sz : t.size ≤ 258000
  sh : SeqAt.shaped t.enc = true
  same : t.plain noH = t
  free : t.free true = []
  txt : (!(Builtin.Str.occurrences t.txt ("(set " : Str) 0 t.txt.length 1).isEmpty) = false
theorem Fit.two {t : Tr} (f : Fit t) : Fit2 (t.plain noH) := by
  have o := Cm.ok_plain noH t f.ok f.nw
  have g := gdTplain noH t f.gd
  have n := ns_plain noH t
  have z := size_plain noH t f.ok f.nw
  have := f.sz
  exact ⟨o.1, o.2, g, n, Nat.le_trans (dep_plain f.ok f.nw noH) f.ld, by omega, (lay_plain t f.ok noH).sh f.ld, plain_same _ noH n (fun _ => rfl), free_ns _ n, no_set (txt_ok _ o.1 o.2 g n).s0⟩
def sideT (rc : Bool) (x : Str) : Tr := if rc = true then .mk (.fn []) [.mk (.one "set" x) [.mk (.num 1) []]] else .mk (.num 1) []
def wideT (rc : Bool) (names : List Str) (t : Tr) : Tr := .mk (.bind (if rc = true then "rec" else "let") names) (names.map (sideT rc) ++ [t])
theorem wide_fit {rc : Bool} {names : List Str} {t : Tr} (hn : ∀ x ∈ names, gw x) (hl : names.length ≤ 4) (g : Gq 40 t) (sz : t.size ≤ 193) : Fit (wideT rc names t) := by
  have gs : ∀ x ∈ names, Gk 40 3 (sideT rc x) := fun x m => by
    unfold sideT
    split
    · exact (gk_fn all_nil (gk_one (by decide) (hn x m) (gk_num (by decide)))).mono (by decide) (by decide)
    · exact (gk_num (by decide)).mono (by decide) (by decide)
  have al : ∀ u ∈ names.map (sideT rc) ++ [t], Gq 40 u := fun u m => by
    rcases List.mem_append.mp m with m | m
    · obtain ⟨x, mx, rfl⟩ := List.mem_map.mp m
      exact (gs x mx).gq
    · rw [List.mem_singleton.mp m]; exact g
  have len : (names.map (sideT rc) ++ [t]).length = names.length + 1 := by rw [List.length_append, List.length_map]; rfl
  have q : Gq 46 (wideT rc names t) := by
    unfold wideT
    refine Gq.of al ⟨len, ?_, fun x m => (hn x m).1⟩ hn trivial (by omega) ?_
    · cases rc <;> decide +kernel
    · have : ∀ w : Str, wk (.bind w names) ≤ 6 := fun w => by
        show (if w = "rec" then 6 else 3) ≤ 6
        split <;> decide
      have := this (if rc = true then "rec" else "let")
      omega
  have szs : ∀ l : List Str, (∀ x ∈ l, (sideT rc x).size ≤ 3) → Tr.sizes (l.map (sideT rc)) ≤ 3 * l.length := fun l => by
    induction l with
    | nil => intro _; exact Nat.le_refl _
    | cons a l ih =>
      intro h
      have h1 := h a List.mem_cons_self
      have h2 := ih fun x m => h x (List.mem_cons_of_mem _ m)
      show (sideT rc a).size + Tr.sizes (l.map (sideT rc)) ≤ 3 * (l.length + 1)
      omega
  refine ⟨q.ok, q.nw, q.gd, by have := q.ld; omega, ?_⟩
  have := szs names fun x m => (gs x m).sz
  show Tr.sizes (names.map (sideT rc) ++ [t]) + 1 ≤ 4300
  rw [sizes_snoc]
  omega
section
variable {P : Program} {w : World} {K : PySem.W.Frag} {mg : Str → Option Value} {base : Heap}
-- law, level 105: 0 _law_script | 1 _law_hand_here | 2 _law_tree | 3 _law_plain_here | 4 _law_names | 5 _law_turn | 6 _law_wide | 7 _law_name
abbrev s_law : Stmt := top 39
abbrev N_law : List Str := ["_law_script", "_law_hand_here", "_law_tree", "_law_plain_here", "_law_names", "_law_turn", "_law_wide", "_law_name"]
theorem sc_law : FnScope N_law ["_law_script"] (defScope s_law) := ⟨rfl, rfl, rfl, by decide +kernel, rfl, by decide +kernel, by decide +kernel⟩
theorem ok_law {f : Addr} {fd : FuncData} (T : Txt mg) (M : Calls P w K mg base) (F : Fun K "law" "law" s_law f fd) : LawAt P w K mg base 216 f fd ["_law_script"] (spLaw K) := by
  refine lawAt_of (k := 215) F sc_law (fun vs H Q E h => ?_) fun cdv A outer s H vs Q E hgd hr h => ?_
  · obtain ⟨a, ns, rfl, _⟩ := h
    rfl
  · obtain ⟨a, ns, rfl, ha, hl, k⟩ := h
    have hu := hu_of hr
    refine ⟨_, (pss_cons (ps_set (i := 1) sc_law.nd rfl (Or.inl rfl) (pe_c M.hand hr (by decide) (by rfl) (pa_cons (pv 0) pa_nil)))
      (pss_cons (ps_set (i := 2) sc_law.nd rfl (Or.inl rfl) (pe_c M.prog hr (by decide) (by rfl) (pa_cons (pv 1) (pa_cons pe_int (pa_cons pe_int pa_nil)))))
      (pss_cons (ps_set (i := 3) sc_law.nd rfl (Or.inl rfl) (pe_c M.wo hr (by decide) (by rfl) (pa_cons (pv 2) pa_nil)))
      (pss_cons (ps_if (PW.pt (pw_or (pt_cmpR (op_neD hr.units) (pv 3) (pe_c M.plain hr (by decide) (by rfl) (pa_cons (pv 2) (pa_cons (pe_lst pa_nil) pa_nil))) (nomark _)) (pw_or (pt_cmpR op_in_str pe_str (pe_c M.text hr (by decide) (by rfl) (pa_cons (pv 3) pa_nil)) (by rfl)) (pw_or1 (pt_cmpR (op_neD hr.units) (pe_c M.wo hr (by decide) (by rfl) (pa_cons (pv 3) pa_nil)) (pv 3) (nomark _))))))
        (pss_one (ps_ret pe_bl))
        pss_nil)
      (pss_cons (ps_set (i := 4) sc_law.nd rfl (Or.inl rfl) (pe_slice sl_tupA (pe_tup (pa_cons pe_str (pa_cons pe_str (pa_cons pe_str (pa_cons pe_str pa_nil))))) po_none (po_some (pe_op op_add pe_int (pe_c M.draw hr (by decide) (by rfl) (pa_cons (pv 1) (pa_cons pe_int pa_nil)))))))
      (pss_cons (ps_for PassesOwn.never rfl (pi_range1 (by rfl) T.range (pa_cons pe_int pa_nil)) (pg_name (i := 5) sc_law.nd rfl (Or.inl rfl))
        (pss_cons (ps_set (i := 6) sc_law.nd rfl (Or.inl rfl) (pe_c M.any hr (by decide) (by rfl) (pa_cons (pv 1) (pa_cons pe_int (pa_cons (pv 4) (pa_cons (pe_lst (pa_cons pe_int pa_nil)) pa_nil))))))
        (pss_mid (ps_if (pt_cmpR op_eq (pv 5) pe_int (nomark _))
          (pss_one (ps_set (i := 6) sc_law.nd rfl (Or.inl rfl) (pe_tup (pa_cons pe_str (pa_cons (pe_tupleOf (by rfl) T.tuple (pe_lc (own := [("_law_name", 7)]) rfl sc_law.nd (pi_tup (pv 4)) (blkOk_by (N := N_law) (sc := defScope s_law) (by decide +kernel))
      (fun _ _ _ _ _ => (pg_name (i := 7) sc_law.nd rfl (Or.inl rfl)))
      (fun _ _ _ _ _ => pts_nil)
      (fun _ _ _ _ _ => (pe_tup (pa_cons (pv 7) (pa_cons (pe_tup (pa_cons pe_str (pa_cons (pe_tup pa_nil) (pa_cons (pe_tup (pa_cons pe_str (pa_cons (pv 7) (pa_cons (pe_tup (pa_cons pe_str (pa_cons pe_int pa_nil))) pa_nil)))) pa_nil)))) pa_nil)))))) (pa_cons (pv 6) pa_nil))))))
          (pss_one (ps_set (i := 6) sc_law.nd rfl (Or.inl rfl) (pe_tup (pa_cons pe_str (pa_cons (pe_tupleOf (by rfl) T.tuple (pe_lc (own := [("_law_name", 7)]) rfl sc_law.nd (pi_tup (pv 4)) (blkOk_by (N := N_law) (sc := defScope s_law) (by decide +kernel))
      (fun _ _ _ _ _ => (pg_name (i := 7) sc_law.nd rfl (Or.inl rfl)))
      (fun _ _ _ _ _ => pts_nil)
      (fun _ _ _ _ _ => (pe_tup (pa_cons (pv 7) (pa_cons (pe_tup (pa_cons pe_str (pa_cons pe_int pa_nil))) pa_nil)))))) (pa_cons (pv 6) pa_nil)))))))
        (pss_cons (ps_set (i := 3) sc_law.nd rfl (Or.inl rfl) (pe_c M.wo hr (by decide) (by rfl) (pa_cons (pv 6) pa_nil)))
        (pss_cons (ps_if (PW.pt (pw_or (pt_cmpR (op_neD hr.units) (pv 3) (pe_c M.plain hr (by decide) (by rfl) (pa_cons (pv 6) (pa_cons (pe_lst pa_nil) pa_nil))) (nomark _)) (pw_or (pt_cmpR (op_neD hr.units) (pe_c M.sets hr (by decide) (by rfl) (pa_cons (pv 3) pa_nil)) (pe_lst pa_nil) (nomark _)) (pw_or1 (pt_cmpR op_in_str pe_str (pe_c M.text hr (by decide) (by rfl) (pa_cons (pv 3) pa_nil)) (by rfl))))))
          (pss_one (ps_ret pe_bl))
          pss_nil)
        (pss_one (ps_if (pt_cmpR (op_neD hr.units) (pe_c M.wo hr (by decide) (by rfl) (pa_cons (pv 3) pa_nil)) (pv 3) (nomark _))
          (pss_one (ps_ret pe_bl))
          pss_nil)))))))
      (pss_one (ps_ret pe_bl)))))))), ?_⟩
    refine ⟨_, rfl, a, ns, rfl, ha, hl, fun h c H1 s1 _ _ hh1 => ?_⟩
    refine ⟨_, rfl, h, c, rfl, hh1, fun v2 t H2 kh2 hh2 d2 g2 => ?_⟩
    have ft : Fit t := ⟨g2.ok, g2.nw, g2.gd, by have := g2.ld; omega, g2.sz⟩
    have f2 := ft.two
    have dep2 : t.dep ≤ 70 := Nat.le_trans (dep_ld ft.ok) (by have := ft.ld; omega)
    have hsz := ft.sz
    refine ⟨_, rfl, v2, t, rfl, d2, ft.ok, ft.nw, dep2, by omega, fun v3 H3 s3 d3 => ?_⟩
    refine ⟨_, rfl, _, rfl, by show 0 ≤ sizeLine; decide, fun e1 he1 => ?_⟩
    have s4 := same_new (o := .lst ([] : List V)) he1
    refine ⟨v2, e1, t, [], rfl, dp_same (s3.trans s4) _ _ d2, ft.ok, ft.nw, dep2, by decide, by omega, upd_same, by decide, fun r5 H5 s5 d5 => ?_⟩
    rw [inB_nil] at d5
    have s35 := s4.trans s5
    have d35 := dp_same s35 _ _ d3
    refine ⟨_, _, d35, d5, f2.sh, f2.sh, _, rfl, ?_⟩
    rw [ne_same' f2.sh]
    refine iteF ⟨_, rfl, v3, _, rfl, d35, f2.ok, f2.nw, f2.gd, f2.ns, f2.dep, by have := f2.sz; omega, fun H6 s6 => ?_⟩
    refine ⟨_, _, rfl, rfl, _, rfl, ?_⟩
    rw [f2.txt]
    have d36 := dp_same s6 _ _ d35
    refine iteF ⟨_, rfl, v3, _, rfl, d36, f2.ok, f2.nw, Nat.le_trans f2.dep (by decide), by have := f2.sz; omega, fun r7 H7 s7 d7 => ?_⟩
    rw [f2.same] at d7
    refine ⟨_, rfl, _, _, d7, dp_same s7 _ _ d36, f2.sh, f2.sh, _, rfl, ?_⟩
    rw [ne_same' f2.sh]
    have s37 := (s3.trans s35).trans (s6.trans s7)
    have hh7 := hh2.same s37
    refine iteF ⟨by show 4 ≤ sizeLine; decide, fun p8 hp8 => ?_⟩
    have s8 := same_new (o := .tup [V.str "a", V.str "b", V.str "c", V.str "d"]) hp8
    have e8 : upd H7 p8 (.tup [V.str "a", V.str "b", V.str "c", V.str "d"]) p8 = some (.tup [V.str "a", V.str "b", V.str "c", V.str "d"]) := upd_same
    have hh8 := hh7.same s8
    generalize upd H7 p8 (.tup [V.str "a", V.str "b", V.str "c", V.str "d"]) = H8 at *
    refine ⟨_, rfl, h, c, _, rfl, hh8, by decide, by decide, fun n H9 n0 n1 kh9 hh9 => ?_⟩
    refine ⟨_, _, rfl, rfl, _, rfl, ?_⟩
    obtain ⟨j, ej, hj⟩ : ∃ j : Nat, (1 : Int) + n = (j : Int) ∧ (1 ≤ j ∧ j ≤ 4) := ⟨(1 + n).toNat, by omega, by omega⟩
    obtain ⟨names, hnames⟩ : ∃ names, names = (["a", "b", "c", "d"] : List Str).take j := ⟨_, rfl⟩
    have nl : names.length = j := by rw [hnames, List.length_take]; show min j 4 = j; omega
    have ng : ∀ x ∈ names, gw x := fun x m => by
      have key : ∀ x ∈ (["a", "b", "c", "d"] : List Str), gw x := by decide +kernel
      rw [hnames] at m
      exact key x (List.mem_of_mem_take m)
    rw [ej]
    refine sl_to (k := j) (xs := (["a", "b", "c", "d"] : List Str).map V.str) (kh9.tup (.inl (.inl e8))) (by show j ≤ 4; omega) fun nm H10 s10 hnm => ?_
    rw [← List.map_take, ← hnames] at hnm
    have hh10 := hh9.same s10
    refine ⟨_, rfl, by decide, by decide, ?_⟩
    refine for_it (walk_upto (n := (2 : Int).toNat)) (fun i σ H' => ∃ (v3 v5 v6 : Option V), σ = [some (.ref a), some (.ref h), some v2, v3, some (.ref nm), v5, v6, none] ∧ Hand H' h c ∧ SqT K H' nm (names.map V.str))
      ⟨_, _, _, rfl, hh10, hnm⟩ (fun _ _ _ _ _ => trivial) ?_ ?_
    · rintro i x σ H11 H11' hi ⟨v3, v5, v6, rfl, hh11, hn11⟩ ⟨rfl, rfl⟩
      clear hnm hh10 hh9 kh9 hh8 e8 s8 hh7
      refine ⟨_, rfl, _, rfl, by show 1 ≤ sizeLine; decide, fun r hr0 => ?_⟩
      have s12 := same_new (o := .lst [V.int 16]) hr0
      have nr := hh11.there hr0
      have gn : Gn (upd H11' r (.lst [V.int 16])) h c r 16 := ⟨hh11.same s12, upd_same, nr.1, nr.2⟩
      have hn12 := sqt_same s12 hn11
      generalize upd H11' r (.lst [V.int 16]) = H12 at *
      refine ⟨h, c, nm, r, names, 16, 5, rfl, gn, hn12, fun e => by rw [e] at nl; simp at nl; omega, by omega, ng, by decide, fun v7 wd k2 H13 kr13 x13 d13 q13 sz13 => ?_⟩
      have hn13 := kr13.tup hn12
      have hh13 := x13.hand
      obtain ⟨rc, hrc⟩ : ∃ rc : Bool, rc = decide (i = 1) := ⟨_, rfl⟩
      have fw := wide_fit (rc := rc) ng (by omega) q13 (by omega)
      have fw2 := fw.two
      refine ⟨fun σ' H' => ∃ (v6 : V), σ' = [some (.ref a), some (.ref h), some v2, v3, some (.ref nm), some (.int (i : Int)), some v6, none] ∧ Same H13 H' ∧ Dp K H' v6 (wideT rc names wd).enc, ?_, ?_⟩
      · refine ⟨_, rfl, rfl, _, rfl, ?_⟩
        by_cases hq : ((i : Nat) : Int) = 1
        · have hrc' : rc = true := by rw [hrc]; exact decide_eq_true (by omega)
          clear hrc
          subst hrc'
          refine iteIeq hq ⟨_, rfl, nm, rfl, ⟨_, hn13⟩, fun D1 hD1 => ?_⟩
          refine lc_data (K := K) (walk_tup (K := K) (a := nm) (xs := names.map V.str)) (fun i => (names[i]?).map fun x => PyData.tuple [.str x, (sideT true x).enc]) hD1 (by rw [List.length_map]; omega) (fun H' s => sqt_same s hn13) (fun i _ d e => ?_) ?_ ?_
          · obtain ⟨x, _, rfl⟩ := Option.map_eq_some_iff.mp e
            simp [flatD, flatDs, flat_enc]
          · rintro i' y0 H15' H15 hi' s15 ⟨rfl, ex⟩ Q1 Q0 q1 q0
            obtain ⟨y, ey, rfl⟩ := map_at ex
            refine ⟨rfl, iteT (B := Q0 H15) ⟨_, rfl, by show 0 ≤ sizeLine; decide, fun p0 hp0 => ⟨_, rfl, by show 2 ≤ sizeLine; decide, fun p1 hp1 => ⟨by show 3 ≤ sizeLine; decide, fun p2 hp2 => ⟨by show 3 ≤ sizeLine; decide, fun p3 hp3 => ⟨by show 2 ≤ sizeLine; decide, fun p4 hp4 => ?_⟩⟩⟩⟩⟩⟩
            have s0 := same_new (o := .tup ([] : List V)) hp0
            have s1 := same_new (o := .tup [V.str "number", V.int 1]) hp1
            have s2 := same_new (o := .tup [V.str "set", V.str y, V.ref p1]) hp2
            have s3 := same_new (o := .tup [V.str "fn", V.ref p0, V.ref p2]) hp3
            have s4 := same_new (o := .tup [V.str y, V.ref p3]) hp4
            have s34 := s3.trans s4
            have s24 := s2.trans s34
            have s14' := s1.trans s24
            exact q1 _ _ (PyData.tuple [.str y, (sideT true y).enc]) (by rw [ey]; rfl) (s0.trans s14') (.tup (.inl (.inl upd_same)) (.cons (.str _) (.cons (.tup (.inl (.inl (s4 _ _ upd_same))) (.cons (.str _) (.cons (.tup (.inl (.inl (s14' _ _ upd_same))) .nil) (.cons (.tup (.inl (.inl (s34 _ _ upd_same))) (.cons (.str _) (.cons (.str _) (.cons (.tup (.inl (.inl (s24 _ _ upd_same))) (.cons (.str _) (.cons (.int _) .nil))) .nil)))) .nil)))) .nil)))
          · intro H15 acc s15 hacc ha
            rw [List.length_map, Cm.range_map (fun x => PyData.tuple [.str x, (sideT true x).enc])] at ha
            refine .inl ⟨D1, acc, rfl, .inl (.inl hacc), fun t16 ht16 => ?_⟩
            have s16 := same_new (o := .tup acc) ht16
            refine ⟨_, rfl, by show 3 ≤ sizeLine; decide, fun t17 ht17 => ?_⟩
            have s17 := same_new (o := .tup [V.str "rec", V.ref t16, v7]) ht17
            refine ⟨_, rfl, (s15.trans s16).trans s17, ?_⟩
            show Dp K _ _ (Tr.mk (.bind "rec" names) (names.map (sideT true) ++ [wd])).enc
            rw [enc_bind _ _ _ _ (by rw [List.length_map]), rows_same (sideT true)]
            exact .tup (.inl (.inl upd_same)) (.cons (.str _) (.cons (.tup (.inl (.inl (s17 _ _ upd_same))) (dps_same (s16.trans s17) _ _ ha)) (.cons (dp_same ((s15.trans s16).trans s17) _ _ d13) .nil)))
        · have hrc' : rc = false := by rw [hrc]; exact decide_eq_false (by omega)
          clear hrc
          subst hrc'
          refine iteIne hq ⟨_, rfl, nm, rfl, ⟨_, hn13⟩, fun D1 hD1 => ?_⟩
          refine lc_data (K := K) (walk_tup (K := K) (a := nm) (xs := names.map V.str)) (fun i => (names[i]?).map fun x => PyData.tuple [.str x, (sideT false x).enc]) hD1 (by rw [List.length_map]; omega) (fun H' s => sqt_same s hn13) (fun i _ d e => ?_) ?_ ?_
          · obtain ⟨x, _, rfl⟩ := Option.map_eq_some_iff.mp e
            simp [flatD, flatDs, flat_enc]
          · rintro i' y0 H15' H15 hi' s15 ⟨rfl, ex⟩ Q1 Q0 q1 q0
            obtain ⟨y, ey, rfl⟩ := map_at ex
            refine ⟨rfl, iteT (B := Q0 H15) ⟨_, rfl, by show 2 ≤ sizeLine; decide, fun p1 hp1 => ⟨by show 2 ≤ sizeLine; decide, fun p4 hp4 => ?_⟩⟩⟩
            have s1 := same_new (o := .tup [V.str "number", V.int 1]) hp1
            have s4 := same_new (o := .tup [V.str y, V.ref p1]) hp4
            exact q1 _ _ (PyData.tuple [.str y, (sideT false y).enc]) (by rw [ey]; rfl) (s1.trans s4) (.tup (.inl (.inl upd_same)) (.cons (.str _) (.cons (.tup (.inl (.inl (s4 _ _ upd_same))) (.cons (.str _) (.cons (.int _) .nil))) .nil)))
          · intro H15 acc s15 hacc ha
            rw [List.length_map, Cm.range_map (fun x => PyData.tuple [.str x, (sideT false x).enc])] at ha
            refine .inl ⟨D1, acc, rfl, .inl (.inl hacc), fun t16 ht16 => ?_⟩
            have s16 := same_new (o := .tup acc) ht16
            refine ⟨_, rfl, by show 3 ≤ sizeLine; decide, fun t17 ht17 => ?_⟩
            have s17 := same_new (o := .tup [V.str "let", V.ref t16, v7]) ht17
            refine ⟨_, rfl, (s15.trans s16).trans s17, ?_⟩
            show Dp K _ _ (Tr.mk (.bind "let" names) (names.map (sideT false) ++ [wd])).enc
            rw [enc_bind _ _ _ _ (by rw [List.length_map]), rows_same (sideT false)]
            exact .tup (.inl (.inl upd_same)) (.cons (.str _) (.cons (.tup (.inl (.inl (s17 _ _ upd_same))) (dps_same (s16.trans s17) _ _ ha)) (.cons (dp_same ((s15.trans s16).trans s17) _ _ d13) .nil)))
      rintro σ' H14 ⟨v6, rfl, s14, d14⟩
      have hh14 := hh13.same s14
      have hn14 := sqt_same s14 hn13
      clear d13 hn13 hh13 x13 kr13 gn hn12 s12 nr
      generalize wideT rc names wd = t2 at *
      have dep3 : t2.dep ≤ 70 := Nat.le_trans (dep_ld fw.ok) (by have := fw.ld; omega)
      have hsz2 := fw.sz
      refine ⟨_, rfl, v6, t2, rfl, d14, fw.ok, fw.nw, dep3, by omega, fun v15 H15 s15 d15 => ?_⟩
      refine ⟨_, rfl, _, rfl, by show 0 ≤ sizeLine; decide, fun e1 he1 => ?_⟩
      have s16 := same_new (o := .lst ([] : List V)) he1
      refine ⟨v6, e1, t2, [], rfl, dp_same (s15.trans s16) _ _ d14, fw.ok, fw.nw, dep3, by decide, by omega, upd_same, by decide, fun r5 H17 s17 d5 => ?_⟩
      rw [inB_nil] at d5
      have s57 := s16.trans s17
      have d17 := dp_same s57 _ _ d15
      refine ⟨_, _, d17, d5, fw2.sh, fw2.sh, _, rfl, ?_⟩
      rw [ne_same' fw2.sh]
      refine iteF ⟨_, rfl, v15, _, rfl, d17, fw2.ok, Nat.le_trans fw2.dep (by decide), by have := fw2.sz; omega, fun l H18 s18 _ hl18 => ⟨by show 0 ≤ sizeLine; decide, fun e2 he2 => ?_⟩⟩
      have s19 := same_new (o := .lst ([] : List V)) he2
      rw [fw2.free] at hl18
      have shn : SeqAt.shaped (.list []) = true := (Lay.lst (n := 1) (ds := []) (fun _ m => by cases m)).sh (by decide)
      refine ⟨.list [], .list [], .lst (.inl (.inl (s19 _ _ hl18))) .nil, .lst (.inl (.inl upd_same)) .nil, shn, shn, _, rfl, ?_⟩
      rw [ne_same' shn]
      have s89 := s18.trans s19
      have d19 := dp_same s89 _ _ d17
      refine iteF ⟨_, rfl, v15, _, rfl, d19, fw2.ok, fw2.nw, fw2.gd, fw2.ns, fw2.dep, by have := fw2.sz; omega, fun H20 s20 => ?_⟩
      refine ⟨_, _, rfl, rfl, _, rfl, ?_⟩
      rw [fw2.txt]
      have d20 := dp_same s20 _ _ d19
      refine iteF ⟨_, rfl, v15, _, rfl, d20, fw2.ok, fw2.nw, Nat.le_trans fw2.dep (by decide), by have := fw2.sz; omega, fun r7 H21 s21 d21 => ?_⟩
      rw [fw2.same] at d21
      refine ⟨_, rfl, _, _, d21, dp_same s21 _ _ d20, fw2.sh, fw2.sh, _, rfl, ?_⟩
      rw [ne_same' fw2.sh]
      have sall := ((s15.trans s57).trans s89).trans (s20.trans s21)
      exact iteF ⟨_, _, _, rfl, hh14.same sall, sqt_same sall hn14⟩
    · rintro σ H11 ⟨v3, v5, v6, rfl, hh11, hn11⟩
      exact k H11
end
end K04

namespace K04
open PySem L2 Cm
theorem at_mk {K : PySem.W.Frag} {h : Heap} {mg : Str → Option Value} {x : Str} {st : Stmt} {ps : List Str} {f : Addr} {oc : Value} {od an : Option Addr} {osl : Array (Option Value)} {kV doc pm cdv ct : Value} (X : K.In h) (G : h.Ns mainGlobals mg)
    (a : PySem.W.nsIn K mainGlobals x = some (some (.ref f))) (l : K.lookup f = some ⟨oc, od, .func (PySem.W.fnOf x x (defArgs st) (defBody st) (defScope st) .none kV doc pm an cdv ct), osl⟩) (c : PySem.W.codeIn K cdv x = true) (k : PySem.W.keepIn K (.ref f) = true)
    (b : ∀ (kV doc pm : Value) (an : Option Addr) (cdv ct : Value) (us : List Value), us.length = ps.length → bindArgs (PySem.W.fnOf x x (defArgs st) (defBody st) (defScope st) .none kV doc pm an cdv ct) ⟨us, []⟩ = pure (ps.zip us)) : At K mg x st ps :=
  ⟨_, _, fun_mk l c k, PySem.W.mg_of X G a, (fun_mk l c k).binds b⟩
theorem all_mk {l : PySem.W.OpenLaw} {w : World} {K : PySem.W.Frag} {h : Heap} {mg : Str → Option Value} {fa f0 f1 f2 f3 f4 f5 f6 f7 f8 f9 f10 f11 f12 f13 f14 f15 f16 f17 f18 f19 f20 f21 f22 f23 f24 f25 f26 f27 f28 f29 f30 f31 f32 f33 f34 f35 : Addr} (X : K.In h) (G : h.Ns mainGlobals mg) (hfa : mg "law" = some (.ref fa))
    {od0 an0 : Option Addr} {sl0 : Array (Option Value)} {oc0 kV0 dc0 pm0 cd0 ct0 : Value} (a0 : PySem.W.nsIn K mainGlobals "_law_mix" = some (some (.ref f0))) (l0 : K.lookup f0 = some ⟨oc0, od0, .func (PySem.W.fnOf "_law_mix" "_law_mix" (defArgs s_l_mix) (defBody s_l_mix) (defScope s_l_mix) .none kV0 dc0 pm0 an0 cd0 ct0), sl0⟩) (c0 : PySem.W.codeIn K cd0 "_law_mix" = true) (k0 : PySem.W.keepIn K (.ref f0) = true)
    {od1 an1 : Option Addr} {sl1 : Array (Option Value)} {oc1 kV1 dc1 pm1 cd1 ct1 : Value} (a1 : PySem.W.nsIn K mainGlobals "_law_hand" = some (some (.ref f1))) (l1 : K.lookup f1 = some ⟨oc1, od1, .func (PySem.W.fnOf "_law_hand" "_law_hand" (defArgs s_l_hand) (defBody s_l_hand) (defScope s_l_hand) .none kV1 dc1 pm1 an1 cd1 ct1), sl1⟩) (c1 : PySem.W.codeIn K cd1 "_law_hand" = true) (k1 : PySem.W.keepIn K (.ref f1) = true)
    {od2 an2 : Option Addr} {sl2 : Array (Option Value)} {oc2 kV2 dc2 pm2 cd2 ct2 : Value} (a2 : PySem.W.nsIn K mainGlobals "_law_draw" = some (some (.ref f2))) (l2 : K.lookup f2 = some ⟨oc2, od2, .func (PySem.W.fnOf "_law_draw" "_law_draw" (defArgs s_l_draw) (defBody s_l_draw) (defScope s_l_draw) .none kV2 dc2 pm2 an2 cd2 ct2), sl2⟩) (c2 : PySem.W.codeIn K cd2 "_law_draw" = true) (k2 : PySem.W.keepIn K (.ref f2) = true)
    {od3 an3 : Option Addr} {sl3 : Array (Option Value)} {oc3 kV3 dc3 pm3 cd3 ct3 : Value} (a3 : PySem.W.nsIn K mainGlobals "_law_pick" = some (some (.ref f3))) (l3 : K.lookup f3 = some ⟨oc3, od3, .func (PySem.W.fnOf "_law_pick" "_law_pick" (defArgs s_l_pick) (defBody s_l_pick) (defScope s_l_pick) .none kV3 dc3 pm3 an3 cd3 ct3), sl3⟩) (c3 : PySem.W.codeIn K cd3 "_law_pick" = true) (k3 : PySem.W.keepIn K (.ref f3) = true)
    {od4 an4 : Option Addr} {sl4 : Array (Option Value)} {oc4 kV4 dc4 pm4 cd4 ct4 : Value} (a4 : PySem.W.nsIn K mainGlobals "parts_of" = some (some (.ref f4))) (l4 : K.lookup f4 = some ⟨oc4, od4, .func (PySem.W.fnOf "parts_of" "parts_of" (defArgs s_p_parts_of) (defBody s_p_parts_of) (defScope s_p_parts_of) .none kV4 dc4 pm4 an4 cd4 ct4), sl4⟩) (c4 : PySem.W.codeIn K cd4 "parts_of" = true) (k4 : PySem.W.keepIn K (.ref f4) = true)
    {od5 an5 : Option Addr} {sl5 : Array (Option Value)} {oc5 kV5 dc5 pm5 cd5 ct5 : Value} (a5 : PySem.W.nsIn K mainGlobals "with_parts" = some (some (.ref f5))) (l5 : K.lookup f5 = some ⟨oc5, od5, .func (PySem.W.fnOf "with_parts" "with_parts" (defArgs s_p_with_parts) (defBody s_p_with_parts) (defScope s_p_with_parts) .none kV5 dc5 pm5 an5 cd5 ct5), sl5⟩) (c5 : PySem.W.codeIn K cd5 "with_parts" = true) (k5 : PySem.W.keepIn K (.ref f5) = true)
    {od6 an6 : Option Addr} {sl6 : Array (Option Value)} {oc6 kV6 dc6 pm6 cd6 ct6 : Value} (a6 : PySem.W.nsIn K mainGlobals "names_bound" = some (some (.ref f6))) (l6 : K.lookup f6 = some ⟨oc6, od6, .func (PySem.W.fnOf "names_bound" "names_bound" (defArgs s_p_names_bound) (defBody s_p_names_bound) (defScope s_p_names_bound) .none kV6 dc6 pm6 an6 cd6 ct6), sl6⟩) (c6 : PySem.W.codeIn K cd6 "names_bound" = true) (k6 : PySem.W.keepIn K (.ref f6) = true)
    {od7 an7 : Option Addr} {sl7 : Array (Option Value)} {oc7 kV7 dc7 pm7 cd7 ct7 : Value} (a7 : PySem.W.nsIn K mainGlobals "_gather" = some (some (.ref f7))) (l7 : K.lookup f7 = some ⟨oc7, od7, .func (PySem.W.fnOf "_gather" "_gather" (defArgs s_p_gather) (defBody s_p_gather) (defScope s_p_gather) .none kV7 dc7 pm7 an7 cd7 ct7), sl7⟩) (c7 : PySem.W.codeIn K cd7 "_gather" = true) (k7 : PySem.W.keepIn K (.ref f7) = true)
    {od8 an8 : Option Addr} {sl8 : Array (Option Value)} {oc8 kV8 dc8 pm8 cd8 ct8 : Value} (a8 : PySem.W.nsIn K mainGlobals "set_names" = some (some (.ref f8))) (l8 : K.lookup f8 = some ⟨oc8, od8, .func (PySem.W.fnOf "set_names" "set_names" (defArgs s_p_set_names) (defBody s_p_set_names) (defScope s_p_set_names) .none kV8 dc8 pm8 an8 cd8 ct8), sl8⟩) (c8 : PySem.W.codeIn K cd8 "set_names" = true) (k8 : PySem.W.keepIn K (.ref f8) = true)
    {od9 an9 : Option Addr} {sl9 : Array (Option Value)} {oc9 kV9 dc9 pm9 cd9 ct9 : Value} (a9 : PySem.W.nsIn K mainGlobals "_pair_of" = some (some (.ref f9))) (l9 : K.lookup f9 = some ⟨oc9, od9, .func (PySem.W.fnOf "_pair_of" "_pair_of" (defArgs s_p_pair_of) (defBody s_p_pair_of) (defScope s_p_pair_of) .none kV9 dc9 pm9 an9 cd9 ct9), sl9⟩) (c9 : PySem.W.codeIn K cd9 "_pair_of" = true) (k9 : PySem.W.keepIn K (.ref f9) = true)
    {od10 an10 : Option Addr} {sl10 : Array (Option Value)} {oc10 kV10 dc10 pm10 cd10 ct10 : Value} (a10 : PySem.W.nsIn K mainGlobals "_filled" = some (some (.ref f10))) (l10 : K.lookup f10 = some ⟨oc10, od10, .func (PySem.W.fnOf "_filled" "_filled" (defArgs s_p_filled) (defBody s_p_filled) (defScope s_p_filled) .none kV10 dc10 pm10 an10 cd10 ct10), sl10⟩) (c10 : PySem.W.codeIn K cd10 "_filled" = true) (k10 : PySem.W.keepIn K (.ref f10) = true)
    {od11 an11 : Option Addr} {sl11 : Array (Option Value)} {oc11 kV11 dc11 pm11 cd11 ct11 : Value} (a11 : PySem.W.nsIn K mainGlobals "_held_names" = some (some (.ref f11))) (l11 : K.lookup f11 = some ⟨oc11, od11, .func (PySem.W.fnOf "_held_names" "_held_names" (defArgs s_p_held_names) (defBody s_p_held_names) (defScope s_p_held_names) .none kV11 dc11 pm11 an11 cd11 ct11), sl11⟩) (c11 : PySem.W.codeIn K cd11 "_held_names" = true) (k11 : PySem.W.keepIn K (.ref f11) = true)
    {od12 an12 : Option Addr} {sl12 : Array (Option Value)} {oc12 kV12 dc12 pm12 cd12 ct12 : Value} (a12 : PySem.W.nsIn K mainGlobals "_plain_rec" = some (some (.ref f12))) (l12 : K.lookup f12 = some ⟨oc12, od12, .func (PySem.W.fnOf "_plain_rec" "_plain_rec" (defArgs s_p_plain_rec) (defBody s_p_plain_rec) (defScope s_p_plain_rec) .none kV12 dc12 pm12 an12 cd12 ct12), sl12⟩) (c12 : PySem.W.codeIn K cd12 "_plain_rec" = true) (k12 : PySem.W.keepIn K (.ref f12) = true)
    {od13 an13 : Option Addr} {sl13 : Array (Option Value)} {oc13 kV13 dc13 pm13 cd13 ct13 : Value} (a13 : PySem.W.nsIn K mainGlobals "_plain" = some (some (.ref f13))) (l13 : K.lookup f13 = some ⟨oc13, od13, .func (PySem.W.fnOf "_plain" "_plain" (defArgs s_p_plain) (defBody s_p_plain) (defScope s_p_plain) .none kV13 dc13 pm13 an13 cd13 ct13), sl13⟩) (c13 : PySem.W.codeIn K cd13 "_plain" = true) (k13 : PySem.W.keepIn K (.ref f13) = true)
    {od14 an14 : Option Addr} {sl14 : Array (Option Value)} {oc14 kV14 dc14 pm14 cd14 ct14 : Value} (a14 : PySem.W.nsIn K mainGlobals "without_set" = some (some (.ref f14))) (l14 : K.lookup f14 = some ⟨oc14, od14, .func (PySem.W.fnOf "without_set" "without_set" (defArgs s_p_without_set) (defBody s_p_without_set) (defScope s_p_without_set) .none kV14 dc14 pm14 an14 cd14 ct14), sl14⟩) (c14 : PySem.W.codeIn K cd14 "without_set" = true) (k14 : PySem.W.keepIn K (.ref f14) = true)
    {od15 an15 : Option Addr} {sl15 : Array (Option Value)} {oc15 kV15 dc15 pm15 cd15 ct15 : Value} (a15 : PySem.W.nsIn K mainGlobals "_law_parts" = some (some (.ref f15))) (l15 : K.lookup f15 = some ⟨oc15, od15, .func (PySem.W.fnOf "_law_parts" "_law_parts" (defArgs s_l_parts) (defBody s_l_parts) (defScope s_l_parts) .none kV15 dc15 pm15 an15 cd15 ct15), sl15⟩) (c15 : PySem.W.codeIn K cd15 "_law_parts" = true) (k15 : PySem.W.keepIn K (.ref f15) = true)
    {od16 an16 : Option Addr} {sl16 : Array (Option Value)} {oc16 kV16 dc16 pm16 cd16 ct16 : Value} (a16 : PySem.W.nsIn K mainGlobals "_law_binds" = some (some (.ref f16))) (l16 : K.lookup f16 = some ⟨oc16, od16, .func (PySem.W.fnOf "_law_binds" "_law_binds" (defArgs s_l_binds) (defBody s_l_binds) (defScope s_l_binds) .none kV16 dc16 pm16 an16 cd16 ct16), sl16⟩) (c16 : PySem.W.codeIn K cd16 "_law_binds" = true) (k16 : PySem.W.keepIn K (.ref f16) = true)
    {od17 an17 : Option Addr} {sl17 : Array (Option Value)} {oc17 kV17 dc17 pm17 cd17 ct17 : Value} (a17 : PySem.W.nsIn K mainGlobals "_law_sets" = some (some (.ref f17))) (l17 : K.lookup f17 = some ⟨oc17, od17, .func (PySem.W.fnOf "_law_sets" "_law_sets" (defArgs s_l_sets) (defBody s_l_sets) (defScope s_l_sets) .none kV17 dc17 pm17 an17 cd17 ct17), sl17⟩) (c17 : PySem.W.codeIn K cd17 "_law_sets" = true) (k17 : PySem.W.keepIn K (.ref f17) = true)
    {od18 an18 : Option Addr} {sl18 : Array (Option Value)} {oc18 kV18 dc18 pm18 cd18 ct18 : Value} (a18 : PySem.W.nsIn K mainGlobals "_law_paired" = some (some (.ref f18))) (l18 : K.lookup f18 = some ⟨oc18, od18, .func (PySem.W.fnOf "_law_paired" "_law_paired" (defArgs s_l_paired) (defBody s_l_paired) (defScope s_l_paired) .none kV18 dc18 pm18 an18 cd18 ct18), sl18⟩) (c18 : PySem.W.codeIn K cd18 "_law_paired" = true) (k18 : PySem.W.keepIn K (.ref f18) = true)
    {od19 an19 : Option Addr} {sl19 : Array (Option Value)} {oc19 kV19 dc19 pm19 cd19 ct19 : Value} (a19 : PySem.W.nsIn K mainGlobals "_law_plain_rec" = some (some (.ref f19))) (l19 : K.lookup f19 = some ⟨oc19, od19, .func (PySem.W.fnOf "_law_plain_rec" "_law_plain_rec" (defArgs s_l_plain_rec) (defBody s_l_plain_rec) (defScope s_l_plain_rec) .none kV19 dc19 pm19 an19 cd19 ct19), sl19⟩) (c19 : PySem.W.codeIn K cd19 "_law_plain_rec" = true) (k19 : PySem.W.keepIn K (.ref f19) = true)
    {od20 an20 : Option Addr} {sl20 : Array (Option Value)} {oc20 kV20 dc20 pm20 cd20 ct20 : Value} (a20 : PySem.W.nsIn K mainGlobals "_law_plain" = some (some (.ref f20))) (l20 : K.lookup f20 = some ⟨oc20, od20, .func (PySem.W.fnOf "_law_plain" "_law_plain" (defArgs s_l_plain) (defBody s_l_plain) (defScope s_l_plain) .none kV20 dc20 pm20 an20 cd20 ct20), sl20⟩) (c20 : PySem.W.codeIn K cd20 "_law_plain" = true) (k20 : PySem.W.keepIn K (.ref f20) = true)
    {od21 an21 : Option Addr} {sl21 : Array (Option Value)} {oc21 kV21 dc21 pm21 cd21 ct21 : Value} (a21 : PySem.W.nsIn K mainGlobals "_law_text" = some (some (.ref f21))) (l21 : K.lookup f21 = some ⟨oc21, od21, .func (PySem.W.fnOf "_law_text" "_law_text" (defArgs s_l_text) (defBody s_l_text) (defScope s_l_text) .none kV21 dc21 pm21 an21 cd21 ct21), sl21⟩) (c21 : PySem.W.codeIn K cd21 "_law_text" = true) (k21 : PySem.W.keepIn K (.ref f21) = true)
    {od22 an22 : Option Addr} {sl22 : Array (Option Value)} {oc22 kV22 dc22 pm22 cd22 ct22 : Value} (a22 : PySem.W.nsIn K mainGlobals "_law_leaf" = some (some (.ref f22))) (l22 : K.lookup f22 = some ⟨oc22, od22, .func (PySem.W.fnOf "_law_leaf" "_law_leaf" (defArgs s_l_leaf) (defBody s_l_leaf) (defScope s_l_leaf) .none kV22 dc22 pm22 an22 cd22 ct22), sl22⟩) (c22 : PySem.W.codeIn K cd22 "_law_leaf" = true) (k22 : PySem.W.keepIn K (.ref f22) = true)
    {od23 an23 : Option Addr} {sl23 : Array (Option Value)} {oc23 kV23 dc23 pm23 cd23 ct23 : Value} (a23 : PySem.W.nsIn K mainGlobals "_law_new_name" = some (some (.ref f23))) (l23 : K.lookup f23 = some ⟨oc23, od23, .func (PySem.W.fnOf "_law_new_name" "_law_new_name" (defArgs s_l_new_name) (defBody s_l_new_name) (defScope s_l_new_name) .none kV23 dc23 pm23 an23 cd23 ct23), sl23⟩) (c23 : PySem.W.codeIn K cd23 "_law_new_name" = true) (k23 : PySem.W.keepIn K (.ref f23) = true)
    {od24 an24 : Option Addr} {sl24 : Array (Option Value)} {oc24 kV24 dc24 pm24 cd24 ct24 : Value} (a24 : PySem.W.nsIn K mainGlobals "_law_deed" = some (some (.ref f24))) (l24 : K.lookup f24 = some ⟨oc24, od24, .func (PySem.W.fnOf "_law_deed" "_law_deed" (defArgs s_l_deed) (defBody s_l_deed) (defScope s_l_deed) .none kV24 dc24 pm24 an24 cd24 ct24), sl24⟩) (c24 : PySem.W.codeIn K cd24 "_law_deed" = true) (k24 : PySem.W.keepIn K (.ref f24) = true)
    {od25 an25 : Option Addr} {sl25 : Array (Option Value)} {oc25 kV25 dc25 pm25 cd25 ct25 : Value} (a25 : PySem.W.nsIn K mainGlobals "_law_again" = some (some (.ref f25))) (l25 : K.lookup f25 = some ⟨oc25, od25, .func (PySem.W.fnOf "_law_again" "_law_again" (defArgs s_l_again) (defBody s_l_again) (defScope s_l_again) .none kV25 dc25 pm25 an25 cd25 ct25), sl25⟩) (c25 : PySem.W.codeIn K cd25 "_law_again" = true) (k25 : PySem.W.keepIn K (.ref f25) = true)
    {od26 an26 : Option Addr} {sl26 : Array (Option Value)} {oc26 kV26 dc26 pm26 cd26 ct26 : Value} (a26 : PySem.W.nsIn K mainGlobals "_law_lay" = some (some (.ref f26))) (l26 : K.lookup f26 = some ⟨oc26, od26, .func (PySem.W.fnOf "_law_lay" "_law_lay" (defArgs s_l_lay) (defBody s_l_lay) (defScope s_l_lay) .none kV26 dc26 pm26 an26 cd26 ct26), sl26⟩) (c26 : PySem.W.codeIn K cd26 "_law_lay" = true) (k26 : PySem.W.keepIn K (.ref f26) = true)
    {od27 an27 : Option Addr} {sl27 : Array (Option Value)} {oc27 kV27 dc27 pm27 cd27 ct27 : Value} (a27 : PySem.W.nsIn K mainGlobals "_law_form" = some (some (.ref f27))) (l27 : K.lookup f27 = some ⟨oc27, od27, .func (PySem.W.fnOf "_law_form" "_law_form" (defArgs s_l_form) (defBody s_l_form) (defScope s_l_form) .none kV27 dc27 pm27 an27 cd27 ct27), sl27⟩) (c27 : PySem.W.codeIn K cd27 "_law_form" = true) (k27 : PySem.W.keepIn K (.ref f27) = true)
    {od28 an28 : Option Addr} {sl28 : Array (Option Value)} {oc28 kV28 dc28 pm28 cd28 ct28 : Value} (a28 : PySem.W.nsIn K mainGlobals "_law_form_of_control" = some (some (.ref f28))) (l28 : K.lookup f28 = some ⟨oc28, od28, .func (PySem.W.fnOf "_law_form_of_control" "_law_form_of_control" (defArgs s_l_form_of_control) (defBody s_l_form_of_control) (defScope s_l_form_of_control) .none kV28 dc28 pm28 an28 cd28 ct28), sl28⟩) (c28 : PySem.W.codeIn K cd28 "_law_form_of_control" = true) (k28 : PySem.W.keepIn K (.ref f28) = true)
    {od29 an29 : Option Addr} {sl29 : Array (Option Value)} {oc29 kV29 dc29 pm29 cd29 ct29 : Value} (a29 : PySem.W.nsIn K mainGlobals "_law_loop" = some (some (.ref f29))) (l29 : K.lookup f29 = some ⟨oc29, od29, .func (PySem.W.fnOf "_law_loop" "_law_loop" (defArgs s_l_loop) (defBody s_l_loop) (defScope s_l_loop) .none kV29 dc29 pm29 an29 cd29 ct29), sl29⟩) (c29 : PySem.W.codeIn K cd29 "_law_loop" = true) (k29 : PySem.W.keepIn K (.ref f29) = true)
    {od30 an30 : Option Addr} {sl30 : Array (Option Value)} {oc30 kV30 dc30 pm30 cd30 ct30 : Value} (a30 : PySem.W.nsIn K mainGlobals "_law_program" = some (some (.ref f30))) (l30 : K.lookup f30 = some ⟨oc30, od30, .func (PySem.W.fnOf "_law_program" "_law_program" (defArgs s_l_program) (defBody s_l_program) (defScope s_l_program) .none kV30 dc30 pm30 an30 cd30 ct30), sl30⟩) (c30 : PySem.W.codeIn K cd30 "_law_program" = true) (k30 : PySem.W.keepIn K (.ref f30) = true)
    {od31 an31 : Option Addr} {sl31 : Array (Option Value)} {oc31 kV31 dc31 pm31 cd31 ct31 : Value} (a31 : PySem.W.nsIn K mainGlobals "_law_any_leaf" = some (some (.ref f31))) (l31 : K.lookup f31 = some ⟨oc31, od31, .func (PySem.W.fnOf "_law_any_leaf" "_law_any_leaf" (defArgs s_l_any_leaf) (defBody s_l_any_leaf) (defScope s_l_any_leaf) .none kV31 dc31 pm31 an31 cd31 ct31), sl31⟩) (c31 : PySem.W.codeIn K cd31 "_law_any_leaf" = true) (k31 : PySem.W.keepIn K (.ref f31) = true)
    {od32 an32 : Option Addr} {sl32 : Array (Option Value)} {oc32 kV32 dc32 pm32 cd32 ct32 : Value} (a32 : PySem.W.nsIn K mainGlobals "_law_any_names" = some (some (.ref f32))) (l32 : K.lookup f32 = some ⟨oc32, od32, .func (PySem.W.fnOf "_law_any_names" "_law_any_names" (defArgs s_l_any_names) (defBody s_l_any_names) (defScope s_l_any_names) .none kV32 dc32 pm32 an32 cd32 ct32), sl32⟩) (c32 : PySem.W.codeIn K cd32 "_law_any_names" = true) (k32 : PySem.W.keepIn K (.ref f32) = true)
    {od33 an33 : Option Addr} {sl33 : Array (Option Value)} {oc33 kV33 dc33 pm33 cd33 ct33 : Value} (a33 : PySem.W.nsIn K mainGlobals "_law_any_fun" = some (some (.ref f33))) (l33 : K.lookup f33 = some ⟨oc33, od33, .func (PySem.W.fnOf "_law_any_fun" "_law_any_fun" (defArgs s_l_any_fun) (defBody s_l_any_fun) (defScope s_l_any_fun) .none kV33 dc33 pm33 an33 cd33 ct33), sl33⟩) (c33 : PySem.W.codeIn K cd33 "_law_any_fun" = true) (k33 : PySem.W.keepIn K (.ref f33) = true)
    {od34 an34 : Option Addr} {sl34 : Array (Option Value)} {oc34 kV34 dc34 pm34 cd34 ct34 : Value} (a34 : PySem.W.nsIn K mainGlobals "_law_any" = some (some (.ref f34))) (l34 : K.lookup f34 = some ⟨oc34, od34, .func (PySem.W.fnOf "_law_any" "_law_any" (defArgs s_l_any) (defBody s_l_any) (defScope s_l_any) .none kV34 dc34 pm34 an34 cd34 ct34), sl34⟩) (c34 : PySem.W.codeIn K cd34 "_law_any" = true) (k34 : PySem.W.keepIn K (.ref f34) = true)
    {od35 an35 : Option Addr} {sl35 : Array (Option Value)} {oc35 kV35 dc35 pm35 cd35 ct35 : Value} (a35 : PySem.W.nsIn K mainGlobals "law" = some (some (.ref f35))) (l35 : K.lookup f35 = some ⟨oc35, od35, .func (PySem.W.fnOf "law" "law" (defArgs s_law) (defBody s_law) (defScope s_law) .none kV35 dc35 pm35 an35 cd35 ct35), sl35⟩) (c35 : PySem.W.codeIn K cd35 "law" = true) (k35 : PySem.W.keepIn K (.ref f35) = true)
    (z_abs : PySem.W.nsIn K mainGlobals "abs" = some none)
    (z_enumerate : PySem.W.nsIn K mainGlobals "enumerate" = some none)
    (z_int : PySem.W.nsIn K mainGlobals "int" = some none)
    (z_len : PySem.W.nsIn K mainGlobals "len" = some none)
    (z_list : PySem.W.nsIn K mainGlobals "list" = some none)
    (z_min : PySem.W.nsIn K mainGlobals "min" = some none)
    (z_range : PySem.W.nsIn K mainGlobals "range" = some none)
    (z_sorted : PySem.W.nsIn K mainGlobals "sorted" = some none)
    (z_str : PySem.W.nsIn K mainGlobals "str" = some none)
    (z_tuple : PySem.W.nsIn K mainGlobals "tuple" = some none)
    (z_zip : PySem.W.nsIn K mainGlobals "zip" = some none)
    : ∃ fd : FuncData, (∀ (s : Shared) (v : Value), BindsTo s fd ⟨[v], []⟩ [("_law_script", v)]) ∧ ∀ base : Heap, K.In base → base.Ns mainGlobals mg → LawAt l.prog w K mg base 216 fa fd ["_law_script"] (spLaw K) := by
  have e := hfa.symm.trans (PySem.W.mg_of X G a35)
  cases e
  have T : Txt mg := ⟨PySem.W.mg_none_of X G z_abs, PySem.W.mg_none_of X G z_enumerate, PySem.W.mg_none_of X G z_int, PySem.W.mg_none_of X G z_len, PySem.W.mg_none_of X G z_list, PySem.W.mg_none_of X G z_min, PySem.W.mg_none_of X G z_range, PySem.W.mg_none_of X G z_sorted, PySem.W.mg_none_of X G z_str, PySem.W.mg_none_of X G z_tuple, PySem.W.mg_none_of X G z_zip⟩
  have D_mix := at_mk (st := s_l_mix) (ps := ["_law_number", "_law_turn"]) X G a0 l0 c0 k0 fun _ _ _ _ _ _ us hl => match us, hl with | [_, _], _ => rfl
  have D_hand := at_mk (st := s_l_hand) (ps := ["_law_script"]) X G a1 l1 c1 k1 fun _ _ _ _ _ _ us hl => match us, hl with | [_], _ => rfl
  have D_draw := at_mk (st := s_l_draw) (ps := ["_law_hand_here", "_law_many"]) X G a2 l2 c2 k2 fun _ _ _ _ _ _ us hl => match us, hl with | [_, _], _ => rfl
  have D_pick := at_mk (st := s_l_pick) (ps := ["_law_hand_here", "_law_things"]) X G a3 l3 c3 k3 fun _ _ _ _ _ _ us hl => match us, hl with | [_, _], _ => rfl
  have D_parts := at_mk (st := s_p_parts_of) (ps := ["tree"]) X G a4 l4 c4 k4 fun _ _ _ _ _ _ us hl => match us, hl with | [_], _ => rfl
  have D_wparts := at_mk (st := s_p_with_parts) (ps := ["tree", "parts"]) X G a5 l5 c5 k5 fun _ _ _ _ _ _ us hl => match us, hl with | [_, _], _ => rfl
  have D_bound := at_mk (st := s_p_names_bound) (ps := ["tree"]) X G a6 l6 c6 k6 fun _ _ _ _ _ _ us hl => match us, hl with | [_], _ => rfl
  have D_gather := at_mk (st := s_p_gather) (ps := ["tree", "words", "bound", "found"]) X G a7 l7 c7 k7 fun _ _ _ _ _ _ us hl => match us, hl with | [_, _, _, _], _ => rfl
  have D_sets := at_mk (st := s_p_set_names) (ps := ["tree"]) X G a8 l8 c8 k8 fun _ _ _ _ _ _ us hl => match us, hl with | [_], _ => rfl
  have D_pairof := at_mk (st := s_p_pair_of) (ps := ["tree"]) X G a9 l9 c9 k9 fun _ _ _ _ _ _ us hl => match us, hl with | [_], _ => rfl
  have D_filled := at_mk (st := s_p_filled) (ps := ["name", "tree"]) X G a10 l10 c10 k10 fun _ _ _ _ _ _ us hl => match us, hl with | [_, _], _ => rfl
  have D_heldn := at_mk (st := s_p_held_names) (ps := ["tree"]) X G a11 l11 c11 k11 fun _ _ _ _ _ _ us hl => match us, hl with | [_], _ => rfl
  have D_prec := at_mk (st := s_p_plain_rec) (ps := ["tree", "parts", "anew"]) X G a12 l12 c12 k12 fun _ _ _ _ _ _ us hl => match us, hl with | [_, _, _], _ => rfl
  have D_plain := at_mk (st := s_p_plain) (ps := ["tree", "held"]) X G a13 l13 c13 k13 fun _ _ _ _ _ _ us hl => match us, hl with | [_, _], _ => rfl
  have D_wo := at_mk (st := s_p_without_set) (ps := ["tree"]) X G a14 l14 c14 k14 fun _ _ _ _ _ _ us hl => match us, hl with | [_], _ => rfl
  have D_lparts := at_mk (st := s_l_parts) (ps := ["_law_tree"]) X G a15 l15 c15 k15 fun _ _ _ _ _ _ us hl => match us, hl with | [_], _ => rfl
  have D_lbinds := at_mk (st := s_l_binds) (ps := ["_law_tree"]) X G a16 l16 c16 k16 fun _ _ _ _ _ _ us hl => match us, hl with | [_], _ => rfl
  have D_lsets := at_mk (st := s_l_sets) (ps := ["_law_tree"]) X G a17 l17 c17 k17 fun _ _ _ _ _ _ us hl => match us, hl with | [_], _ => rfl
  have D_paired := at_mk (st := s_l_paired) (ps := ["_law_names", "_law_body"]) X G a18 l18 c18 k18 fun _ _ _ _ _ _ us hl => match us, hl with | [_, _], _ => rfl
  have D_lprec := at_mk (st := s_l_plain_rec) (ps := ["_law_tree", "_law_pairs", "_law_held"]) X G a19 l19 c19 k19 fun _ _ _ _ _ _ us hl => match us, hl with | [_, _, _], _ => rfl
  have D_lplain := at_mk (st := s_l_plain) (ps := ["_law_tree", "_law_pairs"]) X G a20 l20 c20 k20 fun _ _ _ _ _ _ us hl => match us, hl with | [_, _], _ => rfl
  have D_text := at_mk (st := s_l_text) (ps := ["_law_tree"]) X G a21 l21 c21 k21 fun _ _ _ _ _ _ us hl => match us, hl with | [_], _ => rfl
  have D_leaf := at_mk (st := s_l_leaf) (ps := ["_law_hand_here", "_law_known"]) X G a22 l22 c22 k22 fun _ _ _ _ _ _ us hl => match us, hl with | [_, _], _ => rfl
  have D_newname := at_mk (st := s_l_new_name) (ps := ["_law_known"]) X G a23 l23 c23 k23 fun _ _ _ _ _ _ us hl => match us, hl with | [_], _ => rfl
  have D_deed := at_mk (st := s_l_deed) (ps := ["_law_hand_here", "_law_known"]) X G a24 l24 c24 k24 fun _ _ _ _ _ _ us hl => match us, hl with | [_, _], _ => rfl
  have D_again := at_mk (st := s_l_again) (ps := ["_law_hand_here", "_law_known"]) X G a25 l25 c25 k25 fun _ _ _ _ _ _ us hl => match us, hl with | [_, _], _ => rfl
  have D_lay := at_mk (st := s_l_lay) (ps := ["_law_hand_here", "_law_deep", "_law_known", "_law_room"]) X G a26 l26 c26 k26 fun _ _ _ _ _ _ us hl => match us, hl with | [_, _, _, _], _ => rfl
  have D_form := at_mk (st := s_l_form) (ps := ["_law_hand_here", "_law_deep", "_law_known", "_law_room"]) X G a27 l27 c27 k27 fun _ _ _ _ _ _ us hl => match us, hl with | [_, _, _, _], _ => rfl
  have D_control := at_mk (st := s_l_form_of_control) (ps := ["_law_hand_here", "_law_deep", "_law_known", "_law_room"]) X G a28 l28 c28 k28 fun _ _ _ _ _ _ us hl => match us, hl with | [_, _, _, _], _ => rfl
  have D_loop := at_mk (st := s_l_loop) (ps := ["_law_hand_here", "_law_deep", "_law_known", "_law_room"]) X G a29 l29 c29 k29 fun _ _ _ _ _ _ us hl => match us, hl with | [_, _, _, _], _ => rfl
  have D_prog := at_mk (st := s_l_program) (ps := ["_law_hand_here", "_law_deep", "_law_many"]) X G a30 l30 c30 k30 fun _ _ _ _ _ _ us hl => match us, hl with | [_, _, _], _ => rfl
  have D_anyl := at_mk (st := s_l_any_leaf) (ps := ["_law_hand_here", "_law_names"]) X G a31 l31 c31 k31 fun _ _ _ _ _ _ us hl => match us, hl with | [_, _], _ => rfl
  have D_anyn := at_mk (st := s_l_any_names) (ps := ["_law_hand_here", "_law_names", "_law_most"]) X G a32 l32 c32 k32 fun _ _ _ _ _ _ us hl => match us, hl with | [_, _, _], _ => rfl
  have D_anyf := at_mk (st := s_l_any_fun) (ps := ["_law_hand_here", "_law_deep", "_law_names", "_law_room", "_law_most"]) X G a33 l33 c33 k33 fun _ _ _ _ _ _ us hl => match us, hl with | [_, _, _, _, _], _ => rfl
  have D_any := at_mk (st := s_l_any) (ps := ["_law_hand_here", "_law_deep", "_law_names", "_law_room"]) X G a34 l34 c34 k34 fun _ _ _ _ _ _ us hl => match us, hl with | [_, _, _, _], _ => rfl
  refine ⟨PySem.W.fnOf "law" "law" (defArgs s_law) (defBody s_law) (defScope s_law) .none kV35 dc35 pm35 an35 cd35 ct35, fun s v => .of_eq rfl, fun base _ _ => ?_⟩
  have c1 := ok_mix (P := l.prog) (w := w) (base := base) T D_mix
  have c2 := ok_draw T c1 D_draw
  have c3 := ok_pick T c2 D_pick
  have p1 := ok_parts_of (P := l.prog) (w := w) (base := base) T D_parts
  have p2 := ok_with_parts (P := l.prog) (w := w) (base := base) T D_wparts
  have p3 := ok_names_bound T p1 D_bound
  have p4 := ok_gather T p1 p3 D_gather 70
  have p5 := ok_set_names T p4 D_sets
  have p6 := ok_pair_of (P := l.prog) (w := w) (base := base) D_pairof
  have p7 := ok_filled (P := l.prog) (w := w) (base := base) D_filled
  have p8 := ok_held_names T p1 p3 p5 D_heldn
  have p9 := K04.ok_plain_rec T p7 p3 p6 D_prec
  have p10 := K04.ok_plain T p1 p3 p2 p8 p9 p6 p7 D_plain 70
  have p11 := ok_p_without_set p10 D_wo
  have q1 := ok_l_parts (P := l.prog) (w := w) (base := base) T D_lparts
  have q2 := ok_l_binds (P := l.prog) (w := w) (base := base) T D_lbinds
  have q3 := ok_l_sets T q1 q2 D_lsets 70
  have q4 := ok_l_paired (P := l.prog) (w := w) (base := base) T D_paired
  have q5 := ok_l_plain T q1 q2 q3 q4 D_lprec D_lplain 70
  have q6 := ok_l_text (P := l.prog) (w := w) (base := base) T D_text 64
  have g1 := ok_l_leaf T c2 D_leaf
  have g2 := ok_l_new_name (P := l.prog) (w := w) (base := base) T D_newname
  have g3 := ok_l_again T c2 g1 D_again
  have g4 := ok_l_deed T c2 g1 g3 D_deed
  have g5 := ok_l_form T c2 c3 g1 g2 g3 g4 D_lay D_control D_loop D_form 5
  have g6 := ok_l_lay (by decide) T c2 g5 D_lay
  have g7 := ok_l_program T c2 g3 g5 g6 D_prog
  have a1 := ok_any_leaf c2 c3 D_anyl
  have a2 := ok_any_names T c2 D_anyn
  have a3 := ok_any T c2 c3 a1 a2 D_anyf D_any 6
  exact ok_law T ⟨ok_hand T D_hand, c2, g7, p11, q5, q6, q3, a3⟩ (fun_mk (st := s_law) l35 c35 k35)
theorem walk {l : PySem.W.OpenLaw} {q : Program} {loose : List Str} {XP : (Str → Option Value) → Heap → Prop} {YP : World → Heap → Prop} {d : DefRec} {K : Params → PySem.W.Frag} (hn : l.most = some 63) (hdf : d.params.defaults = [])
    (hY : ∀ (w : World) (h : Heap), YP w h → (K w.params).In h)
    (F : ∀ (w : World) (mg : Str → Option Value) (fa : Addr) (h : Heap), (K w.params).In h → h.Ns mainGlobals mg → mg d.name = some (.ref fa) →
      ∃ fd : FuncData, (∀ (s : Shared) (u : Value), BindsTo s fd ⟨[u], []⟩ [("_law_script", u)]) ∧ ∀ base : Heap, (K w.params).In base → base.Ns mainGlobals mg → LawAt l.prog w (K w.params) mg base 216 fa fd ["_law_script"] (spLaw (K w.params))) :
    PySem.W.WalkO q loose XP YP l.row.toRowW d [] (fun f vs => PySem.call f vs) :=
  walk_law (n := 63) (k := 216) (x := "_law_script") (sp := fun K => spLaw K) hn (by decide) hdf ⟨rfl, by decide, by decide⟩ hY F fun _ _ a ns hl _ hS => ⟨a, ns, rfl, hS, hl, fun _ => rfl⟩
end K04

open PySem PySem.W PyProof.Rows in
set_option maxRecDepth 100000 in
set_option maxHeartbeats 0 in
theorem PySem.Challenge.cw_goonagain_k04_whole_set_names_held_in_pa_holds : PySem.Challenge.rw_goonagain_k04_whole_set_names_held_in_pa.Holds := by
  w_on; o_law; k_head; (case hw => w_witness2)
  k_fill
  refine K04.walk (l := PySem.Challenge.rw_goonagain_k04_whole_set_names_held_in_pa) rfl rfl (fun w h Y => PySem.W.kIn_of Y) ?F
  case F =>
    intro w mg fa h KX G hmg
    refine' K04.all_mk KX G hmg ?a0 ?l0 ?c0 ?k0 ?a1 ?l1 ?c1 ?k1 ?a2 ?l2 ?c2 ?k2 ?a3 ?l3 ?c3 ?k3 ?a4 ?l4 ?c4 ?k4 ?a5 ?l5 ?c5 ?k5 ?a6 ?l6 ?c6 ?k6 ?a7 ?l7 ?c7 ?k7 ?a8 ?l8 ?c8 ?k8 ?a9 ?l9 ?c9 ?k9 ?a10 ?l10 ?c10 ?k10 ?a11 ?l11 ?c11 ?k11 ?a12 ?l12 ?c12 ?k12 ?a13 ?l13 ?c13 ?k13 ?a14 ?l14 ?c14 ?k14 ?a15 ?l15 ?c15 ?k15 ?a16 ?l16 ?c16 ?k16 ?a17 ?l17 ?c17 ?k17 ?a18 ?l18 ?c18 ?k18 ?a19 ?l19 ?c19 ?k19 ?a20 ?l20 ?c20 ?k20 ?a21 ?l21 ?c21 ?k21 ?a22 ?l22 ?c22 ?k22 ?a23 ?l23 ?c23 ?k23 ?a24 ?l24 ?c24 ?k24 ?a25 ?l25 ?c25 ?k25 ?a26 ?l26 ?c26 ?k26 ?a27 ?l27 ?c27 ?k27 ?a28 ?l28 ?c28 ?k28 ?a29 ?l29 ?c29 ?k29 ?a30 ?l30 ?c30 ?k30 ?a31 ?l31 ?c31 ?k31 ?a32 ?l32 ?c32 ?k32 ?a33 ?l33 ?c33 ?k33 ?a34 ?l34 ?c34 ?k34 ?a35 ?l35 ?c35 ?k35 ?z_abs ?z_enumerate ?z_int ?z_len ?z_list ?z_min ?z_range ?z_sorted ?z_str ?z_tuple ?z_zip
    (case a0 => k_is)
    (case l0 => k_is)
    (case c0 => k_is)
    (case k0 => k_is)
    (case a1 => k_is)
    (case l1 => k_is)
    (case c1 => k_is)
    (case k1 => k_is)
    (case a2 => k_is)
    (case l2 => k_is)
    (case c2 => k_is)
    (case k2 => k_is)
    (case a3 => k_is)
    (case l3 => k_is)
    (case c3 => k_is)
    (case k3 => k_is)
    (case a4 => k_is)
    (case l4 => k_is)
    (case c4 => k_is)
    (case k4 => k_is)
    (case a5 => k_is)
    (case l5 => k_is)
    (case c5 => k_is)
    (case k5 => k_is)
    (case a6 => k_is)
    (case l6 => k_is)
    (case c6 => k_is)
    (case k6 => k_is)
    (case a7 => k_is)
    (case l7 => k_is)
    (case c7 => k_is)
    (case k7 => k_is)
    (case a8 => k_is)
    (case l8 => k_is)
    (case c8 => k_is)
    (case k8 => k_is)
    (case a9 => k_is)
    (case l9 => k_is)
    (case c9 => k_is)
    (case k9 => k_is)
    (case a10 => k_is)
    (case l10 => k_is)
    (case c10 => k_is)
    (case k10 => k_is)
    (case a11 => k_is)
    (case l11 => k_is)
    (case c11 => k_is)
    (case k11 => k_is)
    (case a12 => k_is)
    (case l12 => k_is)
    (case c12 => k_is)
    (case k12 => k_is)
    (case a13 => k_is)
    (case l13 => k_is)
    (case c13 => k_is)
    (case k13 => k_is)
    (case a14 => k_is)
    (case l14 => k_is)
    (case c14 => k_is)
    (case k14 => k_is)
    (case a15 => k_is)
    (case l15 => k_is)
    (case c15 => k_is)
    (case k15 => k_is)
    (case a16 => k_is)
    (case l16 => k_is)
    (case c16 => k_is)
    (case k16 => k_is)
    (case a17 => k_is)
    (case l17 => k_is)
    (case c17 => k_is)
    (case k17 => k_is)
    (case a18 => k_is)
    (case l18 => k_is)
    (case c18 => k_is)
    (case k18 => k_is)
    (case a19 => k_is)
    (case l19 => k_is)
    (case c19 => k_is)
    (case k19 => k_is)
    (case a20 => k_is)
    (case l20 => k_is)
    (case c20 => k_is)
    (case k20 => k_is)
    (case a21 => k_is)
    (case l21 => k_is)
    (case c21 => k_is)
    (case k21 => k_is)
    (case a22 => k_is)
    (case l22 => k_is)
    (case c22 => k_is)
    (case k22 => k_is)
    (case a23 => k_is)
    (case l23 => k_is)
    (case c23 => k_is)
    (case k23 => k_is)
    (case a24 => k_is)
    (case l24 => k_is)
    (case c24 => k_is)
    (case k24 => k_is)
    (case a25 => k_is)
    (case l25 => k_is)
    (case c25 => k_is)
    (case k25 => k_is)
    (case a26 => k_is)
    (case l26 => k_is)
    (case c26 => k_is)
    (case k26 => k_is)
    (case a27 => k_is)
    (case l27 => k_is)
    (case c27 => k_is)
    (case k27 => k_is)
    (case a28 => k_is)
    (case l28 => k_is)
    (case c28 => k_is)
    (case k28 => k_is)
    (case a29 => k_is)
    (case l29 => k_is)
    (case c29 => k_is)
    (case k29 => k_is)
    (case a30 => k_is)
    (case l30 => k_is)
    (case c30 => k_is)
    (case k30 => k_is)
    (case a31 => k_is)
    (case l31 => k_is)
    (case c31 => k_is)
    (case k31 => k_is)
    (case a32 => k_is)
    (case l32 => k_is)
    (case c32 => k_is)
    (case k32 => k_is)
    (case a33 => k_is)
    (case l33 => k_is)
    (case c33 => k_is)
    (case k33 => k_is)
    (case a34 => k_is)
    (case l34 => k_is)
    (case c34 => k_is)
    (case k34 => k_is)
    (case a35 => k_is)
    (case l35 => k_is)
    (case c35 => k_is)
    (case k35 => k_is)
    (case z_abs => k_is)
    (case z_enumerate => k_is)
    (case z_int => k_is)
    (case z_len => k_is)
    (case z_list => k_is)
    (case z_min => k_is)
    (case z_range => k_is)
    (case z_sorted => k_is)
    (case z_str => k_is)
    (case z_tuple => k_is)
    (case z_zip => k_is)
